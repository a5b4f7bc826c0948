package rank

import "testing"

// P17.2: nothing is kept of what was removed, also in the memory beyond the items.
func TestNothingIsKept(t *testing.T) {
	h := New(func(a, b *int) bool { return *a < *b })
	check := func(what string) {
		t.Helper()
		for _, one := range h.items[len(h.items):cap(h.items)] {
			if one.thing != nil {
				t.Errorf("after %s, %d is kept", what, *one.thing)
			}
		}
	}
	for n := range 100 {
		h.Push(&n)
	}
	for range 30 {
		h.Pop()
		check("Pop")
	}
	h.All()
	check("All")
	h.Drop(func(x *int) bool { return *x%3 == 0 })
	check("Drop")
	for h.Len() > 0 {
		h.Pop()
		check("Pop")
	}
	h.Push(new(int))
	h.Drop(func(*int) bool { return true })
	check("Drop of all")
}
