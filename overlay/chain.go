package overlay

import (
	"errors"
	"strings"
)

// What can be wrong with an image that is opened.
var (
	errNone    = errors.New("no such file")
	errCorrupt = errors.New("no image")
	errMissing = errors.New("a backing that there is not")
	errCycle   = errors.New("a backing that stands above already")
)

// fault says at which image, or file, it went wrong.
type fault struct {
	where string
	err   error
}

func (f *fault) Error() string { return "at " + f.where + ": " + f.err.Error() }
func (f *fault) Unwrap() error { return f.err }

// passage says through which image a fault from below came up. It is a type of its own, so that errors.As for a fault passes it by and finds the place itself.
type passage struct {
	through string
	err     error
}

func (p *passage) Error() string { return "through " + p.through + ": " + p.err.Error() }
func (p *passage) Unwrap() error { return p.err }

// openChain answers the images of the chain, from the one of this name down, if it is sound.
func (s *Store) openChain(name string) (*byName[image], error) {
	if !s.files.has(name) {
		return nil, errNone
	}
	var chain byName[image]
	if err := s.openDown(name, &chain); err != nil {
		return nil, err
	}
	return &chain, nil
}

// openBacking is openChain for a backing's name: the empty one stands for none, and its chain has no image and shows nothing.
func (s *Store) openBacking(name string) (*byName[image], error) {
	if name == "" {
		return &byName[image]{}, nil
	}
	return s.openChain(name)
}

// openDown puts the image and all below it into the chain. There must be a file of this name. It ends, since no name is opened that the chain has already.
func (s *Store) openDown(name string, chain *byName[image]) error {
	file, _ := s.files.get(name)
	m, err := parseImage(file)
	if err != nil {
		return &fault{name, err}
	}
	chain.put(name, m)
	switch {
	case m.backing == "":
		return nil
	case chain.has(m.backing):
		return &fault{name, errCycle}
	case !s.files.has(m.backing):
		return &fault{name, errMissing}
	}
	if err := s.openDown(m.backing, chain); err != nil {
		return &passage{name, err}
	}
	return nil
}

// errnoOf tells the number of the fixed error inside err, which is not nil. What is left at the end is errCorrupt, so that no error is ever told as OK.
func errnoOf(err error) Errno {
	switch {
	case errors.Is(err, errNone):
		return ErrNone
	case errors.Is(err, errMissing):
		return ErrMissing
	case errors.Is(err, errCycle):
		return ErrCycle
	default:
		return ErrCorrupt
	}
}

// whereOf is empty for an error that was met at no image. It answers a copy, since the name may be the caller's own text.
func whereOf(err error) string {
	var f *fault
	if errors.As(err, &f) {
		return strings.Clone(f.where)
	}
	return ""
}

func chainNames(chain *byName[image]) string {
	var b strings.Builder
	for name := range chain.all() {
		if b.Len() > 0 {
			b.WriteByte(',')
		}
		b.WriteString(name)
	}
	return b.String()
}
