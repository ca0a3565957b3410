package pack

import (
	"math"

	"mutoscope/affine"
	"mutoscope/api"
	"mutoscope/event"
	"mutoscope/image"
	"mutoscope/node"
	"mutoscope/pixel"
	"mutoscope/rect"
	"mutoscope/scene"
)

const (
	mostPixels = api.MaxImage * api.MaxImage // of a look
	mostColor  = math.MaxUint32              // also of colours that aren't right
)

// passEvent goes through what an event's Kind has.
func passEvent(w way, e *event.Event) {
	passKind(w, &e.Kind)
	switch e.Kind {
	case event.Change:
		passList(w, api.MaxOps, &e.Ops, passOp)
	case event.Press:
		passSigned(w, &e.X, &e.Y)
	case event.Key, event.Clock, event.Draw:
		passNumbers(w, &e.N)
	}
}

// passOp goes through what an op's Kind names.
func passOp(w way, o *scene.Op) {
	passKind(w, &o.Kind)
	switch o.Kind {
	case scene.Create, scene.Move:
		passSigned(w, &o.Id, &o.Parent, &o.Place)
	case scene.Delete:
		passSigned(w, &o.Id)
	case scene.SetMap:
		passSigned(w, &o.Id)
		passMap(w, &o.Map)
	case scene.SetClip:
		passSigned(w, &o.Id)
		passFlags(w, &o.On)
		passRect(w, &o.Clip)
	case scene.SetOpacity:
		passSigned(w, &o.Id, &o.N)
	case scene.SetLook:
		passSigned(w, &o.Id)
		passLook(w, &o.Look)
	case scene.SetHidden:
		passSigned(w, &o.Id)
		passFlags(w, &o.On)
	}
}

func passMap(w way, m *affine.Map) {
	passSigned(w, &m.A, &m.B, &m.C, &m.D, &m.E, &m.F)
}

func passRect(w way, r *rect.Rect) {
	passSigned(w, &r.X0, &r.Y0, &r.X1, &r.Y1)
}

// passLook goes through all of a look, also what its Kind doesn't have: a look
// that isn't right is an event's as well as one that is.
func passLook(w way, l *node.Look) {
	passKind(w, &l.Kind)
	passSigned(w, &l.W, &l.H)
	passColor(w, &l.Color)
	passImage(w, &l.Image)
}

func passImage(w way, m *image.Image) {
	passSigned(w, &m.W, &m.H)
	passList(w, mostPixels, &m.Pixels, passColor)
}

func passColor(w way, p *pixel.Pixel) {
	passBelow(w, mostColor, p)
}
