package disk

import "mutoscope/api"

// power is the state of what a disk's commands run on.
type power struct {
	steps int
	left  int // how many commands from now on it goes; 0, if it doesn't
	down  bool
}

// Arm lets the power go at the n-th command from now on, or at none, if n is
// not above 0. A disk that is down can't be armed.
func (p *power) Arm(n int) {
	if !p.down {
		p.left = max(n, 0)
	}
}

// Down tells if the power has gone.
func (p *power) Down() bool { return p.down }

// Steps tells how many commands there were.
func (p *power) Steps() int { return p.steps }

// command does a command, and tells what it tells. Of one at which the power
// goes just what it leaves is done, and goes unheard.
func (p *power) command(do, leave func() api.Errno) api.Errno {
	if p.down {
		return api.ErrDown
	}
	p.steps++
	if p.goes() {
		p.down = true
		leave()
		return api.ErrDown
	}
	return do()
}

// goes counts a command, and tells if the power goes at it.
func (p *power) goes() bool {
	if p.left == 0 {
		return false
	}
	p.left--
	return p.left == 0
}

// restore brings the power again, to stay.
func (p *power) restore() {
	p.left, p.down = 0, false
}

// nothing is what most commands leave.
func nothing() api.Errno { return api.OK }
