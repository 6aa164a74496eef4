package overlay_test

import (
	"strings"
	"sync"
	"sync/atomic"
	"testing"

	"overlay/overlay"
)

func TestP2StoresAreApart(t *testing.T) {
	one, two := newStore(t, 20), newStore(t, 30)
	load(t, one, "a", strings.Repeat("x", 20), overlay.OK)
	dump(t, two, "a", "", overlay.ErrNone)
	load(t, two, "a", strings.Repeat("y", 30), overlay.OK)
	load(t, two, "a", strings.Repeat("y", 31), overlay.ErrFull)
	load(t, one, "a", strings.Repeat("x", 21), overlay.ErrFull)
	dump(t, one, "a", strings.Repeat("x", 20), overlay.OK)
	drop(t, one, "a", overlay.OK)
	dump(t, two, "a", strings.Repeat("y", 30), overlay.OK)
	makeImage(t, one, "b", 1, "", overlay.OK)
	makeImage(t, one, "c", 1, "b", overlay.OK)
	chain(t, one, "c", "c,b", "", overlay.OK)
	chain(t, two, "c", "", "", overlay.ErrNone)
	makeImage(t, two, "b", 1, "", overlay.ErrFull)
	drop(t, two, "a", overlay.OK)
	makeImage(t, two, "b", 1, "", overlay.OK)
	compare(t, two, "b", "c", 0, overlay.ErrNone)
	rebase(t, two, "b", "c", overlay.ErrNone)
	rebase(t, one, "b", "c", overlay.ErrBelow)
	commit(t, one, "c", overlay.OK)
	commit(t, two, "c", overlay.ErrNone)
	flatten(t, one, "c", overlay.OK)
	dump(t, one, "c", over(""), overlay.OK)
	dump(t, two, "c", "", overlay.ErrNone)
}

// together runs the same work in several goroutines and waits for all.
func together(many int, work func(number int)) {
	var wait sync.WaitGroup
	for i := range many {
		wait.Go(func() { work(i) })
	}
	wait.Wait()
}

func TestP2OneOfManyMakesTheImage(t *testing.T) {
	for range 300 {
		s := newStore(t, 4000)
		var made, refused atomic.Int32
		together(8, func(int) {
			switch s.Make("a", 3, "") {
			case overlay.OK:
				made.Add(1)
			case overlay.ErrExists:
				refused.Add(1)
			}
		})
		if made.Load() != 1 || refused.Load() != 7 {
			t.Fatalf("of 8 Make %d made it, %d were told ErrExists", made.Load(), refused.Load())
		}
	}
}

func TestP2LimitsHoldForMany(t *testing.T) {
	for range 300 {
		s := newStore(t, 50)
		var loaded, full atomic.Int32
		together(8, func(number int) {
			switch s.Load("f"+string(rune('0'+number)), "0123456789") {
			case overlay.OK:
				loaded.Add(1)
			case overlay.ErrFull:
				full.Add(1)
			}
		})
		if loaded.Load() != 5 || full.Load() != 3 {
			t.Fatalf("of 8 files of 10 bytes %d came into a room of 50, %d were told ErrFull", loaded.Load(), full.Load())
		}
	}
}

// Every goroutine works on a name of its own: each answer is what it would be without the others.
func TestP2EachAsIfAlone(t *testing.T) {
	s := newStore(t, 4000)
	makeImage(t, s, "base", 2, "", overlay.OK)
	together(7, func(number int) {
		name := "n" + string(rune('0'+number))
		for range 500 {
			if e := s.Make(name, 3, "base"); e != overlay.OK {
				t.Errorf("Make(%q) = %d", name, e)
			}
			if c, w, e := s.Chain(name); c != name+",base" || w != "" || e != overlay.OK {
				t.Errorf("Chain(%q) = %q, %q, %d", name, c, w, e)
			}
			if e := s.Load(name, name); e != overlay.OK {
				t.Errorf("Load(%q) = %d", name, e)
			}
			if f, e := s.Dump(name); f != name || e != overlay.OK {
				t.Errorf("Dump(%q) = %q, %d", name, f, e)
			}
			if c, e := s.Check("base"); c != "0,0,2,0" || e != overlay.OK {
				t.Errorf("Check = %q, %d", c, e)
			}
			if e := s.Drop(name); e != overlay.OK {
				t.Errorf("Drop(%q) = %d", name, e)
			}
		}
	})
	for i := range 7 {
		dump(t, s, "n"+string(rune('0'+i)), "", overlay.ErrNone)
	}
}

// All goroutines write into one image, each at a place of its own, in which the others' bytes may stand beside its own: no write may take another's away.
func TestP2WritesToOneImage(t *testing.T) {
	s := newStore(t, 4000)
	makeImage(t, s, "base", 3, "", overlay.OK)
	makeImage(t, s, "a", 3, "base", overlay.OK)
	together(8, func(number int) {
		for round := range 300 {
			text := strings.Repeat(string(rune('a'+(number+round)%26)), 3)
			if e := s.Write("a", 3*number, text); e != overlay.OK {
				t.Errorf("Write = %d", e)
			}
			if f, e := s.Read("a", 3*number, 3); f != text || e != overlay.OK {
				t.Errorf("Read = %q, %d, want %q", f, e, text)
			}
			if e := s.Zero("a", 3*number, 3); e != overlay.OK {
				t.Errorf("Zero = %d", e)
			}
			if f, e := s.Read("a", 3*number, 3); f != noughts(3) || e != overlay.OK {
				t.Errorf("Read = %q, %d, want noughts", f, e)
			}
		}
		s.Write("a", 3*number, "end")
	})
	read(t, s, "a", 0, 24, strings.Repeat("end", 8), overlay.OK)
	read(t, s, "base", 0, 24, noughts(24), overlay.OK)
}

// Whole clusters are written and discarded in turn: who reads sees one or the other, never a piece of each.
func TestP2ReadsSeeWholeCalls(t *testing.T) {
	s := newStore(t, 4000)
	makeImage(t, s, "base", 4, "", overlay.OK)
	write(t, s, "base", 0, strings.Repeat("b", 32), overlay.OK)
	makeImage(t, s, "a", 4, "base", overlay.OK)
	write(t, s, "a", 0, strings.Repeat("a", 32), overlay.OK)
	together(6, func(number int) {
		for range 300 {
			switch number % 3 {
			case 0:
				s.Write("a", 0, strings.Repeat("a", 32))
			case 1:
				s.Discard("a", 0, 32)
			case 2:
				f, e := s.Read("a", 0, 32)
				if e != overlay.OK || f != strings.Repeat("a", 32) && f != noughts(32) {
					t.Errorf("Read = %q, %d", f, e)
				}
			}
		}
	})
}

// An image is laid over one ground after the other by some: whoever reads it sees the same all the while.
func TestP2RebaseWhileOthersRead(t *testing.T) {
	s := newStore(t, 4000)
	loadGrounds(t, s)
	load(t, s, "x", picture("same", "ooo", ""), overlay.OK)
	together(8, func(number int) {
		for round := range 300 {
			switch {
			case number < 3:
				if e := s.Rebase("x", grounds[(number+round)%len(grounds)].name); e != overlay.OK {
					t.Errorf("Rebase = %d", e)
				}
			case number == 3:
				if e := s.Flatten("x"); e != overlay.OK {
					t.Errorf("Flatten = %d", e)
				}
			case number == 4:
				if n, e := s.Compare("x", "same"); n != -1 || e != overlay.OK {
					t.Errorf("Compare = %d, %d", n, e)
				}
			default:
				if f, e := s.Read("x", 0, 24); f != bytesBelow || e != overlay.OK {
					t.Errorf("Read = %q, %d", f, e)
				}
			}
		}
	})
	for _, g := range grounds[1:] {
		dump(t, s, g.name, picture("", g.kinds, g.bytes), overlay.OK)
	}
}

// All write into one image, each at a place of its own, and bring it down: no byte may get lost between the two files.
func TestP2CommitWhileOthersWrite(t *testing.T) {
	s := newStore(t, 4000)
	makeImage(t, s, "base", 1, "", overlay.OK)
	makeImage(t, s, "a", 3, "base", overlay.OK)
	together(8, func(number int) {
		for round := range 300 {
			text := strings.Repeat(string(rune('a'+(number+round)%26)), 3)
			if e := s.Write("a", 3*number, text); e != overlay.OK {
				t.Errorf("Write = %d", e)
			}
			if e := s.Commit("a"); e != overlay.OK {
				t.Errorf("Commit = %d", e)
			}
			if f, e := s.Read("base", 3*number, 3); f != text || e != overlay.OK {
				t.Errorf("Read = %q, %d, want %q", f, e, text)
			}
		}
	})
	if f, e := s.Read("a", 0, 24); e != overlay.OK || strings.Contains(f, "\x00") {
		t.Errorf("Read = %q, %d", f, e)
	}
	compare(t, s, "a", "base", -1, overlay.OK)
}

// An image is compared with itself and with its copy below while both change in one call.
func TestP2CompareSeesWholeCalls(t *testing.T) {
	s := newStore(t, 4000)
	makeImage(t, s, "base", 4, "", overlay.OK)
	makeImage(t, s, "a", 4, "base", overlay.OK)
	together(6, func(number int) {
		for range 300 {
			switch number % 3 {
			case 0:
				s.Write("a", 4, strings.Repeat("a", 20))
			case 1:
				s.Commit("a")
				s.Zero("a", 0, 32)
			case 2:
				if n, e := s.Compare("a", "a"); n != -1 || e != overlay.OK {
					t.Errorf("Compare with itself = %d, %d", n, e)
				}
				if n, e := s.Compare("a", "base"); n != -1 && n != 4 || e != overlay.OK {
					t.Errorf("Compare with its backing = %d, %d", n, e)
				}
			}
		}
	})
}

// Of two that each would lie over the other only one may have its way.
func TestP2NoCircleByTwoRebases(t *testing.T) {
	for range 300 {
		s := newStore(t, 4000)
		makeImage(t, s, "a", 1, "", overlay.OK)
		makeImage(t, s, "b", 1, "", overlay.OK)
		var done, refused atomic.Int32
		together(2, func(number int) {
			names := []string{"a", "b"}
			switch s.Rebase(names[number], names[1-number]) {
			case overlay.OK:
				done.Add(1)
			case overlay.ErrBelow:
				refused.Add(1)
			}
		})
		if done.Load() != 1 || refused.Load() != 1 {
			t.Fatalf("of 2 Rebase %d were done, %d told ErrBelow", done.Load(), refused.Load())
		}
	}
}

// toolWalk does the same calls in every store, each with this number's bytes.
func toolWalk(s *overlay.Store, number int) {
	text := strings.Repeat(string(rune('a'+number)), 12)
	s.Make("base", 2, "")
	s.Make("a", 3, "base")
	s.Make("b", 4, "a")
	for round := range 100 {
		s.Write("b", round%20, text)
		s.Commit("b")
		s.Rebase("b", "base")
		s.Commit("a")
		s.Zero("base", round%16, 8)
		s.Rebase("b", "a")
		s.Discard("a", 8, 8)
		s.Compare("a", "b")
	}
	s.Flatten("a")
}

// Stores that are worked on side by side, by several goroutines, are what each is when it is alone.
func TestP2StoresSideBySide(t *testing.T) {
	stores := make([]*overlay.Store, 6)
	for i := range stores {
		stores[i] = newStore(t, 150+10*i)
	}
	together(len(stores), func(number int) { toolWalk(stores[number], number) })
	for i := range stores {
		alone := newStore(t, 150+10*i)
		toolWalk(alone, i)
		for _, name := range []string{"base", "a", "b"} {
			file, e := alone.Dump(name)
			dump(t, stores[i], name, file, e)
		}
	}
}
