package overlay_test

import (
	"strings"
	"testing"

	"overlay/overlay"
)

var someNumbers = []int{lowest, lowest + 1, -1, 0, 1, 2, 7, 8, 30, 31, 240, 255, 256, 4000, 4001, highest - 1, highest}

var someFiles = []string{
	"", "O", "OV", "OV\x01", "OV\x01\xff\xff", "OV\x01\x01\x00\xfe\xff", over(""), over("a"), over("b"), over("abcdefgh"), over("A"),
	"OV\x01\x02\x00\x02\x01\x0212345678abcdefgh", strings.Repeat("\xff", 1000), strings.Repeat("\xff", 1001), strings.Repeat("x", 5000),
}

// everyCall calls each call that takes a name, with these arguments.
func everyCall(s *overlay.Store, name, text string, number, other int) {
	s.Dump(name)
	s.Chain(name)
	s.Check(name)
	s.Read(name, number, other)
	s.Write(name, number, text)
	s.Zero(name, number, other)
	s.Discard(name, number, other)
	s.Commit(name)
	s.Rebase(name, text)
	s.Flatten(name)
	s.Compare(name, text)
}

func TestP1NoCallPanics(t *testing.T) {
	for _, n := range someNumbers {
		overlay.New(n)
	}
	for _, room := range []int{0, 20, 4000} {
		s := newStore(t, room)
		for _, name := range someNames {
			for _, file := range someFiles {
				s.Load(name, file)
				s.Make(name, len(file), file)
				for _, n := range someNumbers {
					s.Make(name, n, "a")
					everyCall(s, name, file, n, -n)
				}
				s.Chain("a")
				s.Make("d", 1, "a")
				s.Make("b", 30, "a")
				for _, n := range someNumbers {
					everyCall(s, "b", "x", n, 1)
				}
			}
			s.Drop(name)
		}
	}
}

// Every pair of numbers, at images that have all kinds of clusters.
func TestP1NoPairOfNumbersPanics(t *testing.T) {
	s := newStore(t, 4000)
	for _, n := range someNumbers {
		for _, m := range append([]int{n, -n}, someNumbers...) {
			load(t, s, "a", "OV\x01\x02\x00\x02\x01\x0212345678abcdefgh", overlay.OK)
			load(t, s, "b", "OV\x01\x03\x01a\x00\xff\x00\x00", overlay.OK)
			everyCall(s, "a", "xyz", n, m)
			everyCall(s, "b", "xyz", n, m)
		}
	}
}

// Each pair of neighbours in the order of a call's errors, and the first against the last.
func TestP1LoadAnswersTheErrorNamedFirst(t *testing.T) {
	s := newStore(t, 10)
	load(t, s, "A", strings.Repeat("x", 1001), overlay.ErrName)
	load(t, s, "A", strings.Repeat("x", 11), overlay.ErrName)
	load(t, s, "a", strings.Repeat("x", 1001), overlay.ErrArg)
	load(t, s, "a", strings.Repeat("x", 11), overlay.ErrFull)
	fill(t, s, 8)
	load(t, s, "", "", overlay.ErrName)
	load(t, s, "a", strings.Repeat("x", 11), overlay.ErrArg)
	load(t, s, "fill0", strings.Repeat("x", 1001), overlay.ErrArg)
	load(t, s, "fill0", strings.Repeat("x", 11), overlay.ErrFull)
}

func TestP1MakeAnswersTheErrorNamedFirst(t *testing.T) {
	s := newStore(t, 16)
	load(t, s, "bad", "OV", overlay.OK)
	makeImage(t, s, "A", 0, "none", overlay.ErrName)
	makeImage(t, s, "A", 1, "", overlay.ErrName)
	makeImage(t, s, "bad", 0, "none", overlay.ErrArg)
	makeImage(t, s, "bad", 31, "", overlay.ErrArg)
	makeImage(t, s, "bad", 1, "none", overlay.ErrExists)
	makeImage(t, s, "bad", 1, "bad", overlay.ErrExists)
	makeImage(t, s, "bad", 30, "", overlay.ErrExists)
	makeImage(t, s, "a", 30, "none", overlay.ErrNone)
	makeImage(t, s, "a", 30, "A", overlay.ErrNone)
	makeImage(t, s, "a", 30, "bad", overlay.ErrCorrupt)
	makeImage(t, s, "a", 30, "", overlay.ErrFull)
	load(t, s, "bad", over("none"), overlay.OK)
	makeImage(t, s, "a", 30, "bad", overlay.ErrMissing)
	load(t, s, "bad", over("bad"), overlay.OK)
	makeImage(t, s, "a", 30, "bad", overlay.ErrCycle)
	fill(t, s, 7)
	makeImage(t, s, "A", 1, "", overlay.ErrName)
	makeImage(t, s, "bad", 1, "none", overlay.ErrArg)
	makeImage(t, s, "a", 30, "none", overlay.ErrArg)
}

func TestP1ReadAndWriteAnswerTheErrorNamedFirst(t *testing.T) {
	s := newStore(t, 40)
	all := func(from, many int, want overlay.Errno) {
		t.Helper()
		read(t, s, "a", from, many, "", want)
		write(t, s, "a", from, strings.Repeat("x", max(0, many)), want)
		zero(t, s, "a", from, many, want)
		discard(t, s, "a", from, many, want)
	}
	all(-1, 1, overlay.ErrNone)
	all(0, 25, overlay.ErrNone)
	load(t, s, "a", over("none"), overlay.OK)
	all(-1, 1, overlay.ErrMissing)
	all(0, 25, overlay.ErrMissing)
	load(t, s, "a", over("a"), overlay.OK)
	all(-1, 1, overlay.ErrCycle)
	all(0, 25, overlay.ErrCycle)
	load(t, s, "a", "OV", overlay.OK)
	all(-1, 1, overlay.ErrCorrupt)
	all(0, 25, overlay.ErrCorrupt)
	load(t, s, "a", "OV\x01\x03\x00\x00\x00\x00\x00", overlay.OK)
	load(t, s, "b", strings.Repeat("x", 31), overlay.OK)
	all(-1, 1, overlay.ErrArg)
	all(0, 25, overlay.ErrArg)
	write(t, s, "a", 0, "x", overlay.ErrFull)
	zero(t, s, "a", 0, 1, overlay.ErrFull)
}

func TestP1ToolsAnswerTheErrorNamedFirst(t *testing.T) {
	s := newStore(t, 60)
	load(t, s, "bad", "OV", overlay.OK)
	load(t, s, "gone", over("none"), overlay.OK)
	load(t, s, "round", over("round"), overlay.OK)
	for _, backing := range []string{"", "none", "bad"} {
		rebase(t, s, "none", backing, overlay.ErrNone)
	}
	for name, own := range map[string]overlay.Errno{"bad": overlay.ErrCorrupt, "gone": overlay.ErrMissing, "round": overlay.ErrCycle} {
		commit(t, s, name, own)
		flatten(t, s, name, own)
		for _, backing := range []string{"", "none", "bad", "gone", "round", name} {
			rebase(t, s, name, backing, own)
		}
		compare(t, s, name, "none", 0, overlay.ErrNone)
		compare(t, s, "none", name, 0, overlay.ErrNone)
		compare(t, s, name, "bad", 0, own)
		compare(t, s, name, "gone", 0, own)
		compare(t, s, name, "round", 0, own)
	}
	drop(t, s, "round", overlay.OK)
	// From here on the room is full, so that each that answers otherwise goes ahead of ErrFull.
	load(t, s, "a", over(""), overlay.OK)
	load(t, s, "b", "OV\x01\x03\x01a\x00\x00\x00\x00", overlay.OK)
	load(t, s, "fill", strings.Repeat("x", 60-2-11-7-10), overlay.OK)
	commit(t, s, "b", overlay.ErrFull)
	commit(t, s, "a", overlay.ErrBelow)
	rebase(t, s, "a", "none", overlay.ErrNone)
	rebase(t, s, "a", "bad", overlay.ErrCorrupt)
	rebase(t, s, "a", "gone", overlay.ErrMissing)
	rebase(t, s, "a", "b", overlay.ErrBelow)
	rebase(t, s, "a", "a", overlay.ErrBelow)
	drop(t, s, "b", overlay.OK)
	load(t, s, "c", "OV\x01\x04\x00\x00\x00\x00\x00\x00", overlay.OK)
	rebase(t, s, "a", "c", overlay.ErrFull)
	rebase(t, s, "c", "a", overlay.ErrFull)
}

func TestP1NothingHasChangedWithAnError(t *testing.T) {
	s := newStore(t, 60)
	makeImage(t, s, "a", 1, "", overlay.OK)
	makeImage(t, s, "b", 2, "a", overlay.OK)
	load(t, s, "c", over("none"), overlay.OK)
	load(t, s, "d", "OV", overlay.OK)
	before := state(s)
	same := func(what string, e, want overlay.Errno) {
		t.Helper()
		if e != want {
			t.Errorf("%s = %d, want %d", what, e, want)
		}
		if state(s) != before {
			t.Fatalf("%s: the store has changed", what)
		}
	}
	same("Load of no name", s.Load("A", "x"), overlay.ErrName)
	same("Load of too much", s.Load("a", strings.Repeat("x", 1001)), overlay.ErrArg)
	same("Load in place, no room", s.Load("a", strings.Repeat("x", 60)), overlay.ErrFull)
	same("Load, no room", s.Load("abcdefgh", strings.Repeat("x", 60)), overlay.ErrFull)
	same("Make of no name", s.Make("A", 1, ""), overlay.ErrName)
	same("Make of none", s.Make("fill0", 0, ""), overlay.ErrArg)
	same("Make again", s.Make("a", 2, ""), overlay.ErrExists)
	same("Make over none", s.Make("fill0", 1, "x"), overlay.ErrNone)
	same("Make over missing", s.Make("fill0", 1, "c"), overlay.ErrMissing)
	same("Make over corrupt", s.Make("fill0", 1, "d"), overlay.ErrCorrupt)
	same("Make, no room", s.Make("fill0", 30, "a"), overlay.ErrFull)
	same("Drop of none", s.Drop("x"), overlay.ErrNone)
	for _, c := range []struct {
		name       string
		from, many int
		want       overlay.Errno
	}{
		{"x", 0, 8, overlay.ErrNone}, {"c", 0, 8, overlay.ErrMissing}, {"d", 0, 8, overlay.ErrCorrupt},
		{"a", -8, 8, overlay.ErrArg}, {"a", 0, 9, overlay.ErrArg}, {"a", highest, 8, overlay.ErrArg},
	} {
		_, e := s.Read(c.name, c.from, c.many)
		same("Read", e, c.want)
		same("Write", s.Write(c.name, c.from, strings.Repeat("x", c.many)), c.want)
		same("Zero", s.Zero(c.name, c.from, c.many), c.want)
		same("Discard", s.Discard(c.name, c.from, c.many), c.want)
	}
	for name, want := range map[string]overlay.Errno{"x": overlay.ErrNone, "c": overlay.ErrMissing, "d": overlay.ErrCorrupt} {
		same("Commit", s.Commit(name), want)
		same("Flatten", s.Flatten(name), want)
		same("Rebase", s.Rebase(name, "a"), want)
		same("Rebase to it", s.Rebase("a", name), want)
		_, e := s.Compare(name, "a")
		same("Compare", e, want)
	}
	same("Commit of one without a backing", s.Commit("a"), overlay.ErrBelow)
	same("Rebase to one over it", s.Rebase("a", "b"), overlay.ErrBelow)
	same("Rebase to itself", s.Rebase("b", "b"), overlay.ErrBelow)
	load(t, s, "abcdefgh", strings.Repeat("x", 60-7-9-11-2), overlay.OK)
	before = state(s)
	same("Write, no room", s.Write("b", 0, "x"), overlay.ErrFull)
	same("Zero, no room", s.Zero("b", 1, 9), overlay.ErrFull)
	same("Commit, no room", s.Commit("b"), overlay.ErrFull)
	load(t, s, "a", "OV\x01\x01\x00\x01\x0112345678", overlay.ErrFull)
	load(t, s, "abcdefgh", strings.Repeat("x", 60-15-9-11-2), overlay.OK)
	load(t, s, "a", "OV\x01\x01\x00\x01\x0112345678", overlay.OK)
	before = state(s)
	same("Flatten, no room", s.Flatten("b"), overlay.ErrFull)
	same("Rebase, no room", s.Rebase("b", ""), overlay.ErrFull)
	drop(t, s, "abcdefgh", overlay.OK)
	fill(t, s, 4)
	before = state(s)
	same("a ninth file", s.Load("abcdefgh", ""), overlay.ErrArg)
	same("a ninth image", s.Make("abcdefgh", 1, ""), overlay.ErrArg)
}

// What there is counts against the room, not what there was.
func TestP1RoomIsForWhatIsLeft(t *testing.T) {
	s := newStore(t, 30)
	load(t, s, "a", strings.Repeat("x", 30), overlay.OK)
	load(t, s, "b", "", overlay.OK)
	load(t, s, "b", "y", overlay.ErrFull)
	load(t, s, "a", strings.Repeat("y", 30), overlay.OK)
	load(t, s, "a", strings.Repeat("y", 31), overlay.ErrFull)
	load(t, s, "a", strings.Repeat("y", 22), overlay.OK)
	makeImage(t, s, "c", 3, "", overlay.ErrFull)
	makeImage(t, s, "c", 2, "", overlay.OK)
	load(t, s, "b", "y", overlay.ErrFull)
	drop(t, s, "c", overlay.OK)
	load(t, s, "b", strings.Repeat("z", 9), overlay.ErrFull)
	load(t, s, "b", strings.Repeat("z", 8), overlay.OK)
}
