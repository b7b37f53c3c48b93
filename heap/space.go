package heap

// space holds objects, one behind the other. An object is its head and its fields; it stands at a place, which is 1 less than its address.
type space struct {
	words  []uint64
	starts []uint64 // a bit of each place, of 64 in a word: whether an object begins there. A field may be any word, so that the words themselves do not tell.
}

// A head is a kind and, above it, the number of fields. A head of kind moved is that of an object that the collector has copied; above the kind it has the place of the copy.
const (
	kindBits = 8
	moved    = 0
)

// head puts a kind and what stands above it into one word.
func head(kind, above int) uint64 { return uint64(above)<<kindBits | uint64(kind) }

// headParts is the kind and what stands above it.
func headParts(w uint64) (kind, above int) {
	return int(w % (1 << kindBits)), int(w >> kindBits)
}

// add puts a copy of an object behind the others and answers its place.
func (s *space) add(kind int, fields []uint64) int {
	place := len(s.words)
	s.words = append(s.words, head(kind, len(fields)))
	s.words = append(s.words, fields...)
	for len(s.starts) <= place/64 {
		s.starts = append(s.starts, 0)
	}
	s.starts[place/64] |= 1 << (place % 64)
	return place
}

// find is the place of the object that w refers to.
func (s *space) find(w uint64) (int, bool) {
	address, ok := Place(w)
	place := address - 1
	if !ok || place < 0 || place/64 >= len(s.starts) || s.starts[place/64]>>(place%64)&1 == 0 {
		return 0, false
	}
	return place, true
}

// object is the kind and the fields of the object at a place. The fields are the space's own.
func (s *space) object(place int) (int, []uint64) {
	kind, count := headParts(s.words[place])
	return kind, s.words[place+1 : place+1+count]
}

// empty takes all objects away. It clears their memory, so that nothing of them is left where others will stand.
func (s *space) empty() {
	clear(s.words)
	clear(s.starts)
	s.words = s.words[:0]
}
