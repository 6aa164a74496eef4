package overlay

// take has the image say what the clusters of the one right above it say.
func (m *image) take(above run[cluster]) {
	m.grow(len(above))
	var taken run[cluster]
	for own, upper := range along(m.clusters, above) {
		if upper.kind != openKind {
			own = upper
		}
		taken = append(taken, own)
	}
	m.clusters = taken
}

// grow adds clusters that read as noughts, as all that was beyond the end did.
func (m *image) grow(size int) {
	for len(m.clusters) < size {
		m.clusters = append(m.clusters, cluster{kind: m.blank()})
	}
}

func (m *image) openAll() { m.clusters = make(run[cluster], len(m.clusters)) }

// pin has each open cluster that would read otherwise over the new view below say itself what it has shown until now.
func (m *image) pin(view run[block], below run[block]) {
	for place := range unlike(view, below) {
		if m.clusters[place].kind == openKind {
			m.clusters[place] = saying(view[place])
		}
	}
}

// saying is the cluster that reads as these bytes over any backing and takes the least room.
func saying(bytes block) cluster {
	if bytes == (block{}) {
		return cluster{kind: zeroKind}
	}
	return cluster{dataKind, bytes}
}
