package plant

import (
	"fulmar/api"
	"fulmar/fix"
	"fulmar/word"
)

// ailment of a channel: what becomes of what it should say.
type ailment interface {
	spoil(r api.Reading) api.Reading
}

// well: nothing ails it.
type well struct{}

func (well) spoil(r api.Reading) api.Reading { return r }

// quiet: no word comes; there is none to be spoilt, so that whoever sends it must ask for this one.
type quiet struct{ well }

type stuck struct{ is int }

func (a stuck) spoil(r api.Reading) api.Reading {
	r.Data = a.is
	return r
}

type shift struct{ by int }

func (a shift) spoil(r api.Reading) api.Reading {
	r.Data = word.Hold(r.Data + a.by)
	return r
}

type mark struct{}

func (mark) spoil(r api.Reading) api.Reading {
	r.Status = 0
	return r
}

// ailmentOf a channel's fault.
func ailmentOf(f api.Fault) ailment {
	is := fix.Clip(f.Is, -api.MaxData, api.MaxData)
	switch f.Kind {
	case api.Quiet:
		return quiet{}
	case api.Stuck:
		return stuck{is}
	case api.Shift:
		return shift{is}
	case api.Mark:
		return mark{}
	}
	return well{}
}

// send what a channel should say, as it comes: no word of one that is quiet.
func send(a ailment, r api.Reading) []api.Reading {
	if _, isQuiet := a.(quiet); isQuiet {
		return nil
	}
	return []api.Reading{a.spoil(r)}
}
