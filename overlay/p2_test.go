package overlay_test

import (
	"strings"
	"sync"
	"sync/atomic"
	"testing"

	"overlay/overlay"
)

func TestP2StoresAreApart(t *testing.T) {
	one, two := newStore(t, 20), newStore(t, 30)
	load(t, one, "a", strings.Repeat("x", 20), overlay.OK)
	dump(t, two, "a", "", overlay.ErrNone)
	load(t, two, "a", strings.Repeat("y", 30), overlay.OK)
	load(t, two, "a", strings.Repeat("y", 31), overlay.ErrFull)
	load(t, one, "a", strings.Repeat("x", 21), overlay.ErrFull)
	dump(t, one, "a", strings.Repeat("x", 20), overlay.OK)
	drop(t, one, "a", overlay.OK)
	dump(t, two, "a", strings.Repeat("y", 30), overlay.OK)
	makeImage(t, one, "b", 1, "", overlay.OK)
	makeImage(t, one, "c", 1, "b", overlay.OK)
	chain(t, one, "c", "c,b", "", overlay.OK)
	chain(t, two, "c", "", "", overlay.ErrNone)
}

// together runs the same work in several goroutines and waits for all.
func together(many int, work func(number int)) {
	var wait sync.WaitGroup
	for i := range many {
		wait.Go(func() { work(i) })
	}
	wait.Wait()
}

func TestP2OneOfManyMakesTheImage(t *testing.T) {
	for range 300 {
		s := newStore(t, 4000)
		var made, refused atomic.Int32
		together(8, func(int) {
			switch s.Make("a", 3, "") {
			case overlay.OK:
				made.Add(1)
			case overlay.ErrExists:
				refused.Add(1)
			}
		})
		if made.Load() != 1 || refused.Load() != 7 {
			t.Fatalf("of 8 Make %d made it, %d were told ErrExists", made.Load(), refused.Load())
		}
	}
}

func TestP2LimitsHoldForMany(t *testing.T) {
	for range 300 {
		s := newStore(t, 50)
		var loaded, full atomic.Int32
		together(8, func(number int) {
			switch s.Load("f"+string(rune('0'+number)), "0123456789") {
			case overlay.OK:
				loaded.Add(1)
			case overlay.ErrFull:
				full.Add(1)
			}
		})
		if loaded.Load() != 5 || full.Load() != 3 {
			t.Fatalf("of 8 files of 10 bytes %d came into a room of 50, %d were told ErrFull", loaded.Load(), full.Load())
		}
	}
}

// Every goroutine works on a name of its own: each answer is what it would be without the others.
func TestP2EachAsIfAlone(t *testing.T) {
	s := newStore(t, 4000)
	makeImage(t, s, "base", 2, "", overlay.OK)
	together(7, func(number int) {
		name := "n" + string(rune('0'+number))
		for range 500 {
			if e := s.Make(name, 3, "base"); e != overlay.OK {
				t.Errorf("Make(%q) = %d", name, e)
			}
			if c, w, e := s.Chain(name); c != name+",base" || w != "" || e != overlay.OK {
				t.Errorf("Chain(%q) = %q, %q, %d", name, c, w, e)
			}
			if e := s.Load(name, name); e != overlay.OK {
				t.Errorf("Load(%q) = %d", name, e)
			}
			if f, e := s.Dump(name); f != name || e != overlay.OK {
				t.Errorf("Dump(%q) = %q, %d", name, f, e)
			}
			if c, e := s.Check("base"); c != "0,0,2,0" || e != overlay.OK {
				t.Errorf("Check = %q, %d", c, e)
			}
			if e := s.Drop(name); e != overlay.OK {
				t.Errorf("Drop(%q) = %d", name, e)
			}
		}
	})
	for i := range 7 {
		dump(t, s, "n"+string(rune('0'+i)), "", overlay.ErrNone)
	}
}

// All goroutines write into one image, each at a place of its own, in which the others' bytes may stand beside its own: no write may take another's away.
func TestP2WritesToOneImage(t *testing.T) {
	s := newStore(t, 4000)
	makeImage(t, s, "base", 3, "", overlay.OK)
	makeImage(t, s, "a", 3, "base", overlay.OK)
	together(8, func(number int) {
		for round := range 300 {
			text := strings.Repeat(string(rune('a'+(number+round)%26)), 3)
			if e := s.Write("a", 3*number, text); e != overlay.OK {
				t.Errorf("Write = %d", e)
			}
			if f, e := s.Read("a", 3*number, 3); f != text || e != overlay.OK {
				t.Errorf("Read = %q, %d, want %q", f, e, text)
			}
			if e := s.Zero("a", 3*number, 3); e != overlay.OK {
				t.Errorf("Zero = %d", e)
			}
			if f, e := s.Read("a", 3*number, 3); f != noughts(3) || e != overlay.OK {
				t.Errorf("Read = %q, %d, want noughts", f, e)
			}
		}
		s.Write("a", 3*number, "end")
	})
	read(t, s, "a", 0, 24, strings.Repeat("end", 8), overlay.OK)
	read(t, s, "base", 0, 24, noughts(24), overlay.OK)
}

// Whole clusters are written and discarded in turn: who reads sees one or the other, never a piece of each.
func TestP2ReadsSeeWholeCalls(t *testing.T) {
	s := newStore(t, 4000)
	makeImage(t, s, "base", 4, "", overlay.OK)
	write(t, s, "base", 0, strings.Repeat("b", 32), overlay.OK)
	makeImage(t, s, "a", 4, "base", overlay.OK)
	write(t, s, "a", 0, strings.Repeat("a", 32), overlay.OK)
	together(6, func(number int) {
		for range 300 {
			switch number % 3 {
			case 0:
				s.Write("a", 0, strings.Repeat("a", 32))
			case 1:
				s.Discard("a", 0, 32)
			case 2:
				f, e := s.Read("a", 0, 32)
				if e != overlay.OK || f != strings.Repeat("a", 32) && f != noughts(32) {
					t.Errorf("Read = %q, %d", f, e)
				}
			}
		}
	})
}
