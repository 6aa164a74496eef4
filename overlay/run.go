package overlay

import "iter"

// run is what stands at the clusters of an image, in their order: the clusters, or what a view has there.
type run[T any] []T

// at answers beyond the end what a new one is: for a view, noughts.
func (r run[T]) at(place int) T {
	if place < len(r) {
		return r[place]
	}
	var none T
	return none
}

// along goes through the upper run and tells with each what the lower one has at the same place, however long that one is.
func along[U, L any](upper run[U], lower run[L]) iter.Seq2[U, L] {
	return func(yield func(U, L) bool) {
		for i, u := range upper {
			if !yield(u, lower.at(i)) {
				return
			}
		}
	}
}
