package compose

import (
	"grille/api"
	"grille/event"
	"grille/tag"
)

// Tag: that of a node, by what its event says.
func Tag(e event.Event) (string, api.Errno) {
	switch e.Kind {
	case event.Scalar:
		return scalarTag(e)
	case event.Seq:
		return groupTag(tag.Seq, e.Tag)
	case event.Map:
		return groupTag(tag.Map, e.Tag)
	}
	return "", api.ErrForm
}

func scalarTag(e event.Event) (string, api.Errno) {
	switch {
	case e.Tag == "" && e.Plain:
		return tag.Resolve(e.Text), api.OK
	case e.Tag == "":
		return tag.Str, api.OK
	case tag.Fits(e.Tag, e.Text):
		return e.Tag, api.OK
	}
	return "", api.ErrTag
}

// groupTag: that of a list or a map, for which the core has one tag alone.
func groupTag(core, t string) (string, api.Errno) {
	switch {
	case t == "" || t == core:
		return core, api.OK
	case tag.Right(t) && !tag.Core(t):
		return t, api.OK
	}
	return "", api.ErrTag
}
