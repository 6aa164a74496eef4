package overlay_test

import (
	"math/rand/v2"
	"slices"
	"strings"
	"testing"

	"overlay/overlay"
)

// sight is what is seen of an image: its chain and its view. Only a sound one has a sight.
type sight struct{ chain, view string }

func (g sight) through(name string) bool { return slices.Contains(strings.Split(g.chain, ","), name) }

var sightNames = []string{"a", "b", "c", "d", "e", "f", "g", "h"}

func sights(s *overlay.Store) map[string]sight {
	all := map[string]sight{}
	for _, name := range sightNames {
		names, _, e := s.Chain(name)
		if e != overlay.OK {
			continue
		}
		size := 240
		for {
			if view, e := s.Read(name, 0, size); e == overlay.OK {
				all[name] = sight{names, view}
				break
			}
			size -= 8
		}
	}
	return all
}

func files(s *overlay.Store) map[string]string {
	all := map[string]string{}
	for _, name := range sightNames {
		if f, e := s.Dump(name); e == overlay.OK {
			all[name] = f
		}
	}
	return all
}

// tree is a store in which images lie over a in two branches and over more than one step, of unlike lengths and with lost clusters.
func tree(t *testing.T) *overlay.Store {
	t.Helper()
	s := newStore(t, 4000)
	load(t, s, "a", "OV\x01\x03\x00\x03\x02\x01\x04"+bytesBelow+"lostlost", overlay.OK)
	load(t, s, "b", picture("a", "oz", ""), overlay.OK)
	load(t, s, "c", "OV\x01\x05\x01b\x00\x02\x00\xff\x00\x02lostlost"+ownBytes[:8], overlay.OK)
	load(t, s, "d", picture("c", "oooooo", ""), overlay.OK)
	load(t, s, "e", picture("a", "odoo", ownBytes), overlay.OK)
	load(t, s, "f", picture("e", "zooo", ""), overlay.OK)
	load(t, s, "g", picture("", "dod", ownBytes), overlay.OK)
	load(t, s, "h", "OV\x01\x03\x01g\x00\x00\x00\x01lostlost", overlay.OK)
	return s
}

// Rebase and Flatten leave every view of the store as it was, and every file but one.
func TestP11RebaseAndFlattenLeaveAllViews(t *testing.T) {
	done := 0
	for _, name := range sightNames {
		for _, backing := range append([]string{""}, sightNames...) {
			s := tree(t)
			seen, kept := sights(s), files(s)
			e := s.Rebase(name, backing)
			if e != overlay.OK && e != overlay.ErrBelow {
				t.Errorf("Rebase(%q, %q) = %d", name, backing, e)
			}
			if e == overlay.OK {
				done++
			}
			sameViews(t, seen, sights(s), "Rebase of "+name+" to "+backing)
			sameFiles(t, kept, files(s), "Rebase of "+name+" to "+backing, name)
		}
		s := tree(t)
		seen, kept := sights(s), files(s)
		flatten(t, s, name, overlay.OK)
		sameViews(t, seen, sights(s), "Flatten of "+name)
		sameFiles(t, kept, files(s), "Flatten of "+name, name)
		chain(t, s, name, name, "", overlay.OK)
	}
	if done < 30 {
		t.Errorf("only %d times was anything rebased", done)
	}
}

func sameViews(t *testing.T, before, after map[string]sight, what string) {
	t.Helper()
	for name, seen := range before {
		if after[name].view != seen.view {
			t.Errorf("%s: the view of %s was %q, is %q", what, name, seen.view, after[name].view)
		}
	}
}

func sameFiles(t *testing.T, before, after map[string]string, what string, but ...string) {
	t.Helper()
	if len(before) != len(after) {
		t.Errorf("%s: there were %d files, there are %d", what, len(before), len(after))
	}
	for name, file := range before {
		if !slices.Contains(but, name) && after[name] != file {
			t.Errorf("%s: the file of %s was %q, is %q", what, name, file, after[name])
		}
	}
}

// Commit leaves its image's view, and so those of the images over it; it writes two files and no other.
func TestP11CommitLeavesItsView(t *testing.T) {
	for name, backing := range map[string]string{"b": "a", "c": "b", "d": "c", "e": "a", "f": "e", "h": "g"} {
		s := tree(t)
		seen, kept := sights(s), files(s)
		commit(t, s, name, overlay.OK)
		now := sights(s)
		for other, g := range seen {
			if (g.through(name) || !g.through(backing)) && now[other].view != g.view {
				t.Errorf("Commit of %s: the view of %s was %q, is %q", name, other, g.view, now[other].view)
			}
			if now[other].chain != g.chain {
				t.Errorf("Commit of %s: the chain of %s was %q, is %q", name, other, g.chain, now[other].chain)
			}
		}
		sameFiles(t, kept, files(s), "Commit of "+name, name, backing)
	}
}

// randomChange does any call that may change the store, and tells which files it may have touched.
func randomChange(s *overlay.Store, random *rand.Rand) []string {
	name, other := sightNames[random.IntN(8)], append(sightNames, "")[random.IntN(9)]
	from := 8 * random.IntN(4)
	switch random.IntN(12) {
	case 0:
		s.Make(name, 1+random.IntN(4), other)
	case 1:
		s.Drop(name)
	case 2:
		s.Load(name, someFiles[random.IntN(len(someFiles))])
	case 3, 4:
		m := randomPicture(random, other)
		s.Load(name, m)
	case 5:
		s.Write(name, from, "written.")
	case 6:
		s.Zero(name, from, 8)
	case 7:
		s.Discard(name, from, 8)
	case 8:
		names, _, _ := s.Chain(name)
		s.Commit(name)
		return strings.Split(names+",,", ",")[:2]
	case 9, 10:
		s.Rebase(name, other)
	case 11:
		s.Flatten(name)
	}
	return []string{name}
}

func randomPicture(random *rand.Rand, backing string) string {
	m := modelImage{backing: backing}
	for range 1 + random.IntN(4) {
		m.kinds += string("oozd"[random.IntN(4)])
		m.own = append(m.own, randomBytes(random, 8)...)
	}
	m.lost = randomBytes(random, 8*random.IntN(2))
	return m.file()
}

// Whatever is called, files and views that have nothing to do with it stay; so does a store at its side.
func TestP11WhateverIsCalled(t *testing.T) {
	random := rand.New(rand.NewPCG(11, 2))
	for range 300 {
		s, beside := tree(t), tree(t)
		besideFiles := files(beside)
		for range 30 {
			seen, kept := sights(s), files(s)
			touched := randomChange(s, random)
			now, nowFiles := sights(s), files(s)
			for name, file := range kept {
				if !slices.Contains(touched, name) && nowFiles[name] != file {
					t.Fatalf("a call at %v: the file of %s was %q, is %q", touched, name, file, nowFiles[name])
				}
			}
			for name, g := range seen {
				if !slices.ContainsFunc(touched, g.through) && now[name] != g {
					t.Fatalf("a call at %v: %s was %q, is %q", touched, name, g, now[name])
				}
			}
		}
		sameFiles(t, besideFiles, files(beside), "calls of another store")
	}
}
