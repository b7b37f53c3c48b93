package heap_test

import (
	"math"
	"math/big"
	"testing"

	"bezel/heap"
)

// Numbers at the ends of the ranges, and beside them.
func edges() []int {
	var l []int
	for _, n := range []int{0, 1 << 32, 1 << 60, 1 << 61, 3 << 60, 1 << 62, math.MaxInt, math.MinInt} {
		for by := -3; by <= 3; by++ {
			l = append(l, n+by, -(n + by))
		}
	}
	for n := -300; n <= 300; n++ {
		l = append(l, n)
	}
	return l
}

// wordOf is 4n + remainder modulo 2^64, by the library's integers.
func wordOf(n int, remainder int64) uint64 {
	all := new(big.Int).Mul(big.NewInt(int64(n)), big.NewInt(4))
	all.Add(all, big.NewInt(remainder))
	all.Mod(all, new(big.Int).Lsh(big.NewInt(1), 64))
	return all.Uint64()
}

// P8.1: Num, Imm and Ptr, modulo 2^64.
func TestWords(t *testing.T) {
	for _, n := range edges() {
		if got, want := heap.Num(n), wordOf(n, 1); got != want {
			t.Errorf("Num(%d) = %d, want %d", n, got, want)
		}
		if got, want := heap.Imm(n), wordOf(n, 2); got != want {
			t.Errorf("Imm(%d) = %d, want %d", n, got, want)
		}
		if got, want := heap.Ptr(n), wordOf(n, 0); got != want {
			t.Errorf("Ptr(%d) = %d, want %d", n, got, want)
		}
	}
	for _, x := range []struct {
		got, want uint64
	}{
		{heap.Num(0), 1}, {heap.Num(5), 21}, {heap.Num(-1), math.MaxUint64 - 2},
		{heap.Num(1<<61 - 1), 1<<63 - 3}, {heap.Num(1 << 61), 1<<63 + 1}, {heap.Num(-1 << 61), 1<<63 + 1}, {heap.Num(1 << 62), 1},
		{heap.Imm(0), 2}, {heap.Imm(3), 14}, {heap.Imm(1<<62 - 1), math.MaxUint64 - 1}, {heap.Imm(1 << 62), 2}, {heap.Imm(-1), math.MaxUint64 - 1},
		{heap.Ptr(0), 0}, {heap.Ptr(1), 4}, {heap.Ptr(1<<62 - 1), math.MaxUint64 - 3}, {heap.Ptr(1 << 62), 0}, {heap.Ptr(-1), math.MaxUint64 - 3},
	} {
		if x.got != x.want {
			t.Errorf("a word is %d, want %d", x.got, x.want)
		}
	}
}

// P8.1: Number, Now and Place are told from one another by the remainder, and answer 0 and false for the others' words.
func TestWordsRead(t *testing.T) {
	none := int64(math.MinInt64) // stands for 0 and false
	for _, x := range []struct {
		w                  uint64
		number, now, place int64
	}{
		{0, none, none, 0},
		{1, 0, none, none},
		{2, none, 0, none},
		{3, none, none, none},
		{4, none, none, 1},
		{5, 1, none, none},
		{6, none, 1, none},
		{7, none, none, none},
		{1<<63 - 4, none, none, 1<<61 - 1},
		{1<<63 - 3, 1<<61 - 1, none, none},
		{1<<63 - 2, none, 1<<61 - 1, none},
		{1<<63 - 1, none, none, none},
		{1 << 63, none, none, 1 << 61},
		{1<<63 + 1, -1 << 61, none, none},
		{1<<63 + 2, none, 1 << 61, none},
		{1<<63 + 3, none, none, none},
		{math.MaxUint64 - 3, none, none, 1<<62 - 1},
		{math.MaxUint64 - 2, -1, none, none},
		{math.MaxUint64 - 1, none, 1<<62 - 1, none},
		{math.MaxUint64, none, none, none},
	} {
		for _, f := range []struct {
			name string
			of   func(uint64) (int, bool)
			want int64
		}{{"Number", heap.Number, x.number}, {"Now", heap.Now, x.now}, {"Place", heap.Place, x.place}} {
			want, has := int(f.want), f.want != none
			if !has {
				want = 0
			}
			if got, ok := f.of(x.w); got != want || ok != has {
				t.Errorf("%s(%d) = %d, %v, want %d, %v", f.name, x.w, got, ok, want, has)
			}
		}
	}
}

// P8.1: what is made of a number in the range says this number, and only it; beyond the range the word is another number's.
func TestWordsThereAndBack(t *testing.T) {
	for _, n := range edges() {
		got, ok := heap.Number(heap.Num(n))
		if !ok || heap.Num(got) != heap.Num(n) || got < -1<<61 || got > 1<<61-1 {
			t.Errorf("Number(Num(%d)) = %d, %v", n, got, ok)
		}
		if in := n >= -1<<61 && n <= 1<<61-1; in != (got == n) {
			t.Errorf("Number(Num(%d)) = %d", n, got)
		}
		for _, f := range []struct {
			name string
			make func(int) uint64
			of   func(uint64) (int, bool)
		}{{"Now(Imm", heap.Imm, heap.Now}, {"Place(Ptr", heap.Ptr, heap.Place}} {
			got, ok := f.of(f.make(n))
			if !ok || f.make(got) != f.make(n) || got < 0 || got > 1<<62-1 {
				t.Errorf("%s(%d)) = %d, %v", f.name, n, got, ok)
			}
			if in := n >= 0 && n <= 1<<62-1; in != (got == n) {
				t.Errorf("%s(%d)) = %d", f.name, n, got)
			}
		}
	}
}

// P8.1: each word is at most one of them, by its remainder.
func TestWordsApart(t *testing.T) {
	for _, n := range edges() {
		w := uint64(n)
		_, number := heap.Number(w)
		_, now := heap.Now(w)
		_, place := heap.Place(w)
		if number != (w%4 == 1) || now != (w%4 == 2) || place != (w%4 == 0) {
			t.Errorf("the word %d is a number %v, at once %v, a place %v", w, number, now, place)
		}
	}
}
