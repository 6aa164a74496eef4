// Package overlay: disk images that lie over others, and the tools that move them about: see DOC.md.
package overlay

import (
	"strings"
	"sync"
)

// Errno is what a call answers: OK or the reason for a refusal.
type Errno int

const (
	OK         Errno = 0
	ErrArg     Errno = 1 // a number that may not be, or too many
	ErrName    Errno = 2 // no name
	ErrExists  Errno = 3 // a file that there is already
	ErrNone    Errno = 4 // no such file
	ErrCorrupt Errno = 5 // a file in the chain that is no image
	ErrMissing Errno = 6 // a backing that there is not
	ErrCycle   Errno = 7 // a backing that stands above already
	ErrBelow   Errno = 8 // nothing below, or itself below
	ErrFull    Errno = 9 // no room
)

// Store keeps files. Each call holds the mutex from its beginning to its end; the functions that the calls share leave it alone.
type Store struct {
	mutex sync.Mutex
	room  int
	files byName[string]
}

// New makes a store (P3).
func New(room int) (*Store, Errno) {
	if room < 0 || room > maxStore {
		return nil, ErrArg
	}
	return &Store{room: room}, OK
}

// Make makes an image (P4).
func (s *Store) Make(name string, clusters int, backing string) Errno {
	s.mutex.Lock()
	defer s.mutex.Unlock()
	switch {
	case !isName(name):
		return ErrName
	case clusters < 1 || clusters > maxClusters || s.files.count() >= maxFiles:
		return ErrArg
	case s.files.has(name):
		return ErrExists
	}
	if _, err := s.openBacking(backing); err != nil {
		return errnoOf(err)
	}
	m := image{backing: backing, clusters: make(run[cluster], clusters)}
	return s.keep(row[string]{name, m.file()})
}

// Load puts a file into the store (P3).
func (s *Store) Load(name string, file string) Errno {
	s.mutex.Lock()
	defer s.mutex.Unlock()
	switch {
	case !isName(name):
		return ErrName
	case len(file) > maxFile:
		return ErrArg
	case s.files.count() >= maxFiles && !s.files.has(name):
		return ErrArg
	}
	return s.keep(row[string]{name, strings.Clone(file)})
}

// Dump tells a file's bytes (P3).
func (s *Store) Dump(name string) (string, Errno) {
	s.mutex.Lock()
	defer s.mutex.Unlock()
	file, ok := s.files.get(name)
	if !ok {
		return "", ErrNone
	}
	return file, OK
}

// Drop takes a file out of the store (P3).
func (s *Store) Drop(name string) Errno {
	s.mutex.Lock()
	defer s.mutex.Unlock()
	if !s.files.has(name) {
		return ErrNone
	}
	s.files.drop(name)
	return OK
}

// Chain tells an image's chain (P5).
func (s *Store) Chain(name string) (string, string, Errno) {
	s.mutex.Lock()
	defer s.mutex.Unlock()
	chain, err := s.openChain(name)
	if err != nil {
		return "", whereOf(err), errnoOf(err)
	}
	return chainNames(chain), "", OK
}

// Check tells what an image's entries are (P5).
func (s *Store) Check(name string) (string, Errno) {
	s.mutex.Lock()
	defer s.mutex.Unlock()
	file, ok := s.files.get(name)
	if !ok {
		return "", ErrNone
	}
	m, err := parseImage(file)
	if err != nil {
		return "", errnoOf(err)
	}
	return m.tally(), OK
}

// Read tells bytes of a view (P6).
func (s *Store) Read(name string, from int, many int) (string, Errno) {
	s.mutex.Lock()
	defer s.mutex.Unlock()
	p := span{from, many}
	_, view, e := s.openAt(name, p)
	if e != OK {
		return "", e
	}
	return string(view[p.from:p.end()]), OK
}

// Write changes bytes of a view (P6).
func (s *Store) Write(name string, from int, data string) Errno {
	s.mutex.Lock()
	defer s.mutex.Unlock()
	p := span{from, len(data)}
	m, view, e := s.openAt(name, p)
	if e != OK || p.many == 0 {
		return e
	}
	copy(view[p.from:], data)
	m.setData(p, view)
	return s.keep(row[string]{name, m.file()})
}

// Zero makes bytes of a view noughts (P7).
func (s *Store) Zero(name string, from int, many int) Errno {
	s.mutex.Lock()
	defer s.mutex.Unlock()
	p := span{from, many}
	m, view, e := s.openAt(name, p)
	if e != OK || p.many == 0 {
		return e
	}
	clear(view[p.from:p.end()])
	m.setData(p, view)
	m.setWhole(p, zeroKind)
	return s.keep(row[string]{name, m.file()})
}

// Discard gives clusters up (P7).
func (s *Store) Discard(name string, from int, many int) Errno {
	s.mutex.Lock()
	defer s.mutex.Unlock()
	p := span{from, many}
	m, _, e := s.openAt(name, p)
	if e != OK || !m.setWhole(p, m.blank()) {
		return e
	}
	return s.keep(row[string]{name, m.file()})
}

// Commit brings an image's clusters down into its backing (P8).
func (s *Store) Commit(name string) Errno {
	s.mutex.Lock()
	defer s.mutex.Unlock()
	chain, err := s.openChain(name)
	if err != nil {
		return errnoOf(err)
	}
	m, _ := chain.get(name)
	if m.backing == "" {
		return ErrBelow
	}
	below, _ := chain.get(m.backing)
	below.take(m.clusters)
	m.openAll()
	return s.keep(row[string]{m.backing, below.file()}, row[string]{name, m.file()})
}

// Rebase lays an image over another backing (P9).
func (s *Store) Rebase(name string, backing string) Errno {
	s.mutex.Lock()
	defer s.mutex.Unlock()
	return s.rebase(name, backing)
}

// Flatten lays an image over none (P9).
func (s *Store) Flatten(name string) Errno {
	s.mutex.Lock()
	defer s.mutex.Unlock()
	return s.rebase(name, "")
}

// Compare tells where two views differ first (P10).
func (s *Store) Compare(name string, other string) (int, Errno) {
	s.mutex.Lock()
	defer s.mutex.Unlock()
	// A file that there is not goes ahead of all that is wrong with one that there is.
	if !s.files.has(name) || !s.files.has(other) {
		return 0, ErrNone
	}
	chain, err := s.openChain(name)
	if err != nil {
		return 0, errnoOf(err)
	}
	otherChain, err := s.openChain(other)
	if err != nil {
		return 0, errnoOf(err)
	}
	return firstUnlike(bytesOf(viewOf(chain)), bytesOf(viewOf(otherChain))), OK
}

func (s *Store) rebase(name string, backing string) Errno {
	chain, err := s.openChain(name)
	if err != nil {
		return errnoOf(err)
	}
	below, err := s.openBacking(backing)
	if err != nil {
		return errnoOf(err)
	}
	if below.has(name) {
		return ErrBelow
	}
	m, _ := chain.get(name)
	m.pin(viewOf(chain), viewOf(below))
	m.backing = backing
	return s.keep(row[string]{name, m.file()})
}

// openAt answers an image and the bytes of its view, if it is sound and its view has the span.
func (s *Store) openAt(name string, p span) (image, []byte, Errno) {
	chain, err := s.openChain(name)
	if err != nil {
		return image{}, nil, errnoOf(err)
	}
	m, _ := chain.get(name)
	view := bytesOf(viewOf(chain))
	if !p.within(len(view)) {
		return image{}, nil, ErrArg
	}
	return m, view, OK
}

// keep puts files in, each in place of one of its name, if the room is enough for what there is then; else none of them.
func (s *Store) keep(changed ...row[string]) Errno {
	after := s.files.copied()
	for _, r := range changed {
		after.put(r.name, r.thing)
	}
	total := 0
	for _, file := range after.all() {
		total += len(file)
	}
	if total > s.room {
		return ErrFull
	}
	s.files = after
	return OK
}
