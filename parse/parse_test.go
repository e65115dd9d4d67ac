package parse

import (
	"slices"
	"testing"

	"grille/api"
	"grille/event"
)

// R1, R3: what is wrong is told by the fault that a reader panics with; whatever else it panics with is no panic of a call.
func TestTold(t *testing.T) {
	one := []event.Event{{Kind: event.Begin}}
	if l, e := told(func() []event.Event { return one }); e != api.OK || !slices.Equal(l, one) {
		t.Errorf("what is read: %+v, %d", l, e)
	}
	for _, want := range []api.Errno{api.ErrForm, api.ErrIndent, api.ErrDeep} {
		if l, e := told(func() []event.Event { panic(fault(want)) }); e != want || l != nil {
			t.Errorf("the fault %d: %+v, %d", want, l, e)
		}
	}
	var none []int
	for i, read := range []func() []event.Event{
		func() []event.Event { panic("a") },
		func() []event.Event { panic(api.ErrDeep) },
		func() []event.Event { return one[none[0]:] },
	} {
		if l, e := told(read); e != api.ErrForm || l != nil {
			t.Errorf("panic %d: %+v, %d", i, l, e)
		}
	}
}
