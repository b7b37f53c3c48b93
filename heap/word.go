package heap

// A word says by its remainder by 4 what it stands for, and by the rest which one of these.
const (
	step    = 4
	ofPtr   = 0
	ofNum   = 1
	ofImm   = 2
	lowBits = 2 // of the remainder
)

// Num is the word of the number n, modulo 2^64.
func Num(n int) uint64 { return uint64(n)*step + ofNum }

// Imm is the word of the value with the number n that needs no object, modulo 2^64.
func Imm(n int) uint64 { return uint64(n)*step + ofImm }

// Ptr is the word of the object at an address, modulo 2^64.
func Ptr(at int) uint64 { return uint64(at)*step + ofPtr }

// Number is the n whose Num is w, from -2^61 to 2^61 - 1.
func Number(w uint64) (int, bool) {
	if w%step != ofNum {
		return 0, false
	}
	return int(int64(w) >> lowBits), true
}

// Now is the n whose Imm is w, from 0 to 2^62 - 1.
func Now(w uint64) (int, bool) { return above(w, ofImm) }

// Place is the address whose Ptr is w, from 0 to 2^62 - 1.
func Place(w uint64) (int, bool) { return above(w, ofPtr) }

// above is what w holds above a remainder, if it has that one.
func above(w, remainder uint64) (int, bool) {
	if w%step != remainder {
		return 0, false
	}
	return int(w >> lowBits), true
}
