package overlay

// span is a range of a view's bytes, as a caller names it: only within tells whether there are such bytes.
type span struct {
	from, many int
}

// within never adds the two numbers, since their sum may wrap round.
func (p span) within(size int) bool {
	return p.from >= 0 && p.many >= 0 && p.many <= size-p.from
}

func (p span) end() int { return p.from + p.many }

// touches tells whether a byte of the cluster lies in the span; it holds for none if the span is empty.
func (p span) touches(place int) bool {
	begin := place * clusterBytes
	return max(p.from, begin) < min(p.end(), begin+clusterBytes)
}

// covers tells whether the cluster lies in the span as a whole.
func (p span) covers(place int) bool {
	begin := place * clusterBytes
	return p.from <= begin && begin+clusterBytes <= p.end()
}

// viewOf works from the bottom up: each image asks the view right below it and no deeper one, so that where a backing ends nothing shines through from further below.
func viewOf(chain *byName[image]) run[block] {
	var view run[block]
	for _, m := range chain.backward() {
		view = m.viewOver(view)
	}
	return view
}

func (m image) viewOver(below run[block]) run[block] {
	var view run[block]
	for c, seen := range along(m.clusters, below) {
		switch c.kind {
		case zeroKind:
			seen = block{}
		case dataKind:
			seen = c.data
		}
		view = append(view, seen)
	}
	return view
}

func bytesOf(view run[block]) run[byte] {
	var all run[byte]
	for _, b := range view {
		all = append(all, b[:]...)
	}
	return all
}

// setData makes each cluster that the span touches data, with what the view's bytes are to be there.
func (m *image) setData(p span, view []byte) {
	for i := range m.clusters {
		if p.touches(i) {
			m.clusters[i].kind = dataKind
			copy(m.clusters[i].data[:], view[i*clusterBytes:])
		}
	}
}

// setWhole makes each cluster that the span covers one of this kind, without data. It tells whether there was one.
func (m *image) setWhole(p span, k kind) bool {
	some := false
	for i := range m.clusters {
		if p.covers(i) {
			m.clusters[i] = cluster{kind: k}
			some = true
		}
	}
	return some
}

// blank is what a cluster becomes that is to read as noughts and to take no room: over a backing it may not be open, or old bytes would be read again.
func (m image) blank() kind {
	if m.backing == "" {
		return openKind
	}
	return zeroKind
}
