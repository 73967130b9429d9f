package cut

import (
	"testing"

	"draghead/api"
)

// The rules end with the first one that is broken, and are told from other panics, which go on.
func TestP73Panics(t *testing.T) {
	if v, is := firstBroken(func() {}); is || v != (api.Violation{}) {
		t.Errorf("no rule is broken: %v, %t", v, is)
	}
	if v, is := firstBroken(func() { panic(broken{api.ErrZone, 7}) }); !is || v != (api.Violation{Cell: 7, Rule: api.ErrZone}) {
		t.Errorf("a rule is broken: %v, %t", v, is)
	}
	for _, x := range []any{"another one", api.ErrZone, api.Violation{Rule: api.ErrZone}, &broken{api.ErrZone, 7}} {
		if got := panicOf(func() { firstBroken(func() { panic(x) }) }); got != x {
			t.Errorf("another panic: %v instead of %v", got, x)
		}
	}
}

// panicOf is what a function panics with.
func panicOf(f func()) (out any) {
	defer func() { out = recover() }()
	f()
	return nil
}
