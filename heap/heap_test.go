package heap_test

import (
	"math"
	"math/rand"
	"slices"
	"testing"

	"bezel/api"
	"bezel/heap"
)

// P8.1: New makes empty heaps of 16 to 2^20 words.
func TestNew(t *testing.T) {
	for _, words := range []int{16, 17, 1000, 1<<20 - 1, 1 << 20} {
		h, err := heap.New(words)
		if h == nil || err != api.OK {
			t.Errorf("New(%d) = %v, %v", words, h, err)
			continue
		}
		if h.Used() != 0 || h.Room() != words {
			t.Errorf("New(%d): Used %d, Room %d", words, h.Used(), h.Room())
		}
		for w := uint64(0); w < 100; w++ {
			if _, ok := h.Kind(w); ok {
				t.Errorf("New(%d): the word %d refers to an object", words, w)
			}
		}
	}
	for _, words := range []int{15, 1, 0, -1, -16, math.MinInt, 1<<20 + 1, math.MaxInt} {
		if h, err := heap.New(words); h != nil || err != api.ErrArg {
			t.Errorf("New(%d) = %v, %v, want ErrArg", words, h, err)
		}
	}
}

// P8.2: the chapter's example, and what is then told of both objects.
func TestExample(t *testing.T) {
	h := made(t, 16)
	a := put(t, h, 1, heap.Num(7), heap.Imm(8))
	b := put(t, h, 127)
	if a != 4 || b != 16 || a != heap.Ptr(1) || b != heap.Ptr(4) {
		t.Errorf("the words are %d and %d, want 4 and 16", a, b)
	}
	if h.Used() != 4 || h.Room() != 12 {
		t.Errorf("Used %d, Room %d", h.Used(), h.Room())
	}
	m := &model{16, []object{{1, 1, []uint64{29, 34}}, {4, 127, nil}}}
	agree(t, h, m, "the example")
}

// P8.2: kinds are 1 to 127. A refused object changes nothing.
func TestAllocKind(t *testing.T) {
	for _, kind := range []int{1, 2, 63, 64, 65, 126, 127} {
		h := made(t, 16)
		w := put(t, h, kind, 1, 2)
		if got, ok := h.Kind(w); got != kind || !ok || w != 4 || h.Used() != 3 {
			t.Errorf("kind %d: %d, %v, word %d, Used %d", kind, got, ok, w, h.Used())
		}
	}
	for _, kind := range []int{0, 128, 129, 191, 255, 256, 257, 1<<8 + 1, 1<<32 + 1, math.MaxInt, -1, -127, -255, math.MinInt, math.MinInt + 1} {
		h := made(t, 16)
		for _, fields := range [][]uint64{nil, {1, 2}} {
			if w, err := h.Alloc(kind, fields...); w != 0 || err != api.ErrArg {
				t.Errorf("Alloc(%d) = %d, %v, want ErrArg", kind, w, err)
			}
		}
		agree(t, h, &model{capacity: 16}, "a refused kind")
	}
}

// P8.2: an object has up to 65536 fields.
func TestAllocFields(t *testing.T) {
	fields := make([]uint64, 65537)
	for i := range fields {
		fields[i] = uint64(i) * 0x9E3779B97F4A7C15
	}
	for _, n := range []int{0, 1, 2, 63, 64, 65, 255, 256, 65535, 65536} {
		h := made(t, 1<<20)
		a := put(t, h, 1, fields[:n]...)
		b := put(t, h, 64, fields[:n]...)
		if a != 4 || b != heap.Ptr(2+n) || h.Used() != 2+2*n || h.Room() != 1<<20-2-2*n {
			t.Errorf("%d fields: words %d, %d, Used %d, Room %d", n, a, b, h.Used(), h.Room())
		}
		want := []object{{1, 1, fields[:n]}, {2 + n, 64, fields[:n]}}
		if !sameObjects(contents(h), want) {
			t.Errorf("%d fields: other objects", n)
		}
		if roots := h.Collect([]uint64{b}); roots[0] != 4 || !sameObjects(contents(h), []object{{1, 64, fields[:n]}}) {
			t.Errorf("%d fields: other objects after Collect", n)
		}
	}
	h := made(t, 1<<20)
	if w, err := h.Alloc(1, fields...); w != 0 || err != api.ErrArg || h.Used() != 0 {
		t.Errorf("65537 fields: %d, %v, Used %d", w, err, h.Used())
	}
}

// P8.2: an object fits that fills the room just so; one that is a word greater does not. ErrArg comes ahead of ErrMem.
func TestAllocRoom(t *testing.T) {
	for _, words := range []int{16, 17, 64, 65, 100} {
		for first := 0; first < words; first++ {
			m, h := &model{capacity: words}, made(t, words)
			put(t, h, 1, make([]uint64, first)...)
			m.alloc(1, make([]uint64, first))
			left := words - 1 - first
			if w, err := h.Alloc(2, make([]uint64, left)...); w != 0 || err != api.ErrMem {
				t.Fatalf("a word more than fits: %d, %v", w, err)
			}
			agree(t, h, m, "an object that does not fit")
			if left == 0 {
				continue
			}
			if w, err := h.Alloc(2, make([]uint64, left-1)...); w != heap.Ptr(2+first) || err != api.OK {
				t.Fatalf("an object that just fits: %d, %v", w, err)
			}
			m.alloc(2, make([]uint64, left-1))
			agree(t, h, m, "an object that just fits")
			if w, err := h.Alloc(2); w != 0 || err != api.ErrMem || h.Room() != 0 {
				t.Fatalf("a full heap: %d, %v, Room %d", w, err, h.Room())
			}
		}
	}
	for _, x := range []struct {
		words, kind, fields int
		want                api.Errno
	}{
		{16, 0, 16, api.ErrArg}, {16, 128, 16, api.ErrArg}, {16, -1, 65536, api.ErrArg}, {16, 1, 65537, api.ErrArg}, {16, 0, 65537, api.ErrArg},
		{16, 1, 16, api.ErrMem}, {16, 127, 65536, api.ErrMem}, {16, 1, 15, api.OK},
		{65537, 1, 65536, api.OK}, {65536, 1, 65536, api.ErrMem}, {65538, 1, 65537, api.ErrArg}, {1 << 20, 1, 65537, api.ErrArg},
	} {
		h := made(t, x.words)
		w, err := h.Alloc(x.kind, make([]uint64, x.fields)...)
		if err != x.want || (w == 4) != (err == api.OK) || w != 0 && w != 4 {
			t.Errorf("%d words, Alloc(%d) of %d fields = %d, %v, want %v", x.words, x.kind, x.fields, w, err, x.want)
		}
	}
}

// P8.2: a great heap takes just as many words as it has.
func TestAllocGreatHeap(t *testing.T) {
	h := made(t, 1<<20)
	fields := make([]uint64, 65535)
	for i := range 16 {
		if w := put(t, h, 1+i, fields...); w != heap.Ptr(1+65536*i) {
			t.Fatalf("object %d has the word %d", i, w)
		}
	}
	if w, err := h.Alloc(1); w != 0 || err != api.ErrMem || h.Used() != 1<<20 || h.Room() != 0 {
		t.Errorf("a full heap: %d, %v, Used %d, Room %d", w, err, h.Used(), h.Room())
	}
}

// wrongWords are words that refer to none of three objects at 1, 4 and 5, of 2, 0 and 3 fields.
func wrongWords() []uint64 {
	l := []uint64{0, heap.Ptr(2), heap.Ptr(3), heap.Ptr(6), heap.Ptr(7), heap.Ptr(8), heap.Ptr(9), heap.Ptr(10), heap.Ptr(16), heap.Ptr(17), heap.Ptr(18), heap.Ptr(65), heap.Ptr(1 << 20), heap.Ptr(-1)}
	for _, at := range []int{0, 1, 2, 4, 5, 9, 1 << 32, 1 << 61, 1<<62 - 1, -4} {
		l = append(l, heap.Ptr(at)+1, heap.Ptr(at)+2, heap.Ptr(at)+3)
	}
	for _, at := range []int{1, 4, 5} {
		for bit := 8; bit < 64; bit++ {
			l = append(l, heap.Ptr(at)|1<<bit)
		}
	}
	return append(l, math.MaxUint64, math.MaxUint64-3, 1<<63)
}

// P8.2: Kind, Len, Field and Set of words that refer to no object, and Field and Set where there is no field.
func TestWrongWords(t *testing.T) {
	m, h := &model{capacity: 64}, made(t, 64)
	for _, o := range []object{{0, 1, []uint64{heap.Ptr(4), 7}}, {0, 64, nil}, {0, 127, []uint64{heap.Ptr(1), heap.Ptr(5), 3}}} {
		put(t, h, o.kind, o.fields...)
		m.alloc(o.kind, o.fields)
	}
	for _, w := range wrongWords() {
		if kind, ok := h.Kind(w); kind != 0 || ok {
			t.Errorf("Kind(%d) = %d, %v", w, kind, ok)
		}
		if n := h.Len(w); n != 0 {
			t.Errorf("Len(%d) = %d", w, n)
		}
		for _, i := range []int{math.MinInt, -1, 0, 1, 2, math.MaxInt} {
			if x, ok := h.Field(w, i); x != 0 || ok {
				t.Errorf("Field(%d, %d) = %d, %v", w, i, x, ok)
			}
			if err := h.Set(w, i, 9); err != api.ErrArg {
				t.Errorf("Set(%d, %d) = %v", w, i, err)
			}
		}
	}
	for _, x := range []struct{ at, count int }{{1, 2}, {4, 0}, {5, 3}} {
		for _, i := range []int{math.MinInt, -x.count, -1, x.count, x.count + 1, 64, 1 << 32, math.MaxInt} {
			if i >= 0 && i < x.count {
				continue
			}
			if f, ok := h.Field(heap.Ptr(x.at), i); f != 0 || ok {
				t.Errorf("Field(Ptr(%d), %d) = %d, %v", x.at, i, f, ok)
			}
			if i != 0 || x.count == 0 {
				if err := h.Set(heap.Ptr(x.at), i, 9); err != api.ErrArg {
					t.Errorf("Set(Ptr(%d), %d) = %v", x.at, i, err)
				}
			}
		}
	}
	agree(t, h, m, "wrong words")
}

// P8.2: Set changes the one field, also to a word of the greatest.
func TestSet(t *testing.T) {
	m, h := &model{capacity: 64}, made(t, 64)
	for _, o := range []object{{0, 1, []uint64{1, 2}}, {0, 64, nil}, {0, 127, []uint64{3, 4, 5}}} {
		put(t, h, o.kind, o.fields...)
		m.alloc(o.kind, o.fields)
	}
	for _, x := range []uint64{0, 4, heap.Num(-1), math.MaxUint64, 17} {
		for _, at := range []int{1, 5} {
			for i := range h.Len(heap.Ptr(at)) {
				if err := h.Set(heap.Ptr(at), i, x); err != api.OK {
					t.Fatalf("Set(Ptr(%d), %d): %v", at, i, err)
				}
				m.set(heap.Ptr(at), i, x)
				agree(t, h, m, "Set")
			}
		}
	}
}

// P8.2: whether a word refers to an object hangs on the objects that are there when it is asked.
func TestWordBeforeObject(t *testing.T) {
	h := made(t, 16)
	next := heap.Ptr(3)
	a := put(t, h, 1, next)
	if _, ok := h.Kind(next); ok {
		t.Error("a word refers to an object ahead of it")
	}
	b := put(t, h, 2, heap.Num(5))
	if kind, ok := h.Kind(next); b != next || kind != 2 || !ok {
		t.Errorf("the word %d does not refer to the new object", next)
	}
	if x, _ := h.Field(a, 0); x != next {
		t.Errorf("the field is %d", x)
	}
}

// P8.2 and R3: the fields that are given are neither kept nor changed.
func TestAllocCopies(t *testing.T) {
	h := made(t, 32)
	fields := []uint64{1, 2, 3}
	a := put(t, h, 1, fields...)
	fields[0] = 9
	if x, _ := h.Field(a, 0); x != 1 {
		t.Errorf("the field is %d", x)
	}
	h.Set(a, 1, 8)
	b := put(t, h, 1, fields[:2]...)
	h.Set(b, 0, 7)
	h.Collect([]uint64{b})
	if !slices.Equal(fields, []uint64{9, 2, 3}) {
		t.Errorf("the fields that were given are %v", fields)
	}
}

// P8.1 and R4: heaps do not share anything.
func TestHeapsApart(t *testing.T) {
	a, b := made(t, 16), made(t, 16)
	w := put(t, a, 1, 5)
	if _, ok := b.Kind(w); ok || b.Used() != 0 {
		t.Error("an object of one heap is on another")
	}
	put(t, b, 2, 6)
	b.Collect(nil)
	if x, ok := a.Field(w, 0); x != 5 || !ok {
		t.Errorf("the field is %d, %v", x, ok)
	}
}

// P0: no call panics, whatever the arguments; P8.2 and P8.3 against the model, with many calls of all kinds in any order.
func TestManyCalls(t *testing.T) {
	for seed := range int64(60) {
		r := rand.New(rand.NewSource(seed))
		words := 16 + r.Intn(200)
		h, m := made(t, words), &model{capacity: words}
		for range 300 {
			manyCall(t, r, h, m)
			agree(t, h, m, "one of many calls")
		}
	}
}

// anyWord is a word of something on a heap, most often, or of something beside it.
func anyWord(r *rand.Rand, m *model) uint64 {
	switch r.Intn(8) {
	case 0:
		return r.Uint64()
	case 1:
		return uint64(r.Intn(4 * (m.capacity + 4)))
	case 2:
		return heap.Ptr(r.Intn(m.capacity + 4))
	}
	if len(m.objects) == 0 {
		return 4
	}
	return heap.Ptr(m.objects[r.Intn(len(m.objects))].at)
}

func anyWords(r *rand.Rand, m *model, most int) []uint64 {
	l := make([]uint64, r.Intn(most+1))
	for i := range l {
		l[i] = anyWord(r, m)
	}
	return l
}

// manyCall makes one call on a heap and on its model.
func manyCall(t *testing.T, r *rand.Rand, h *heap.Heap, m *model) {
	t.Helper()
	switch r.Intn(10) {
	case 0:
		roots := anyWords(r, m, 3)
		before := slices.Clone(roots)
		got, want := h.Collect(roots), m.collect(before)
		if !slices.Equal(got, want) || !slices.Equal(roots, before) {
			t.Fatalf("Collect(%v) = %v, want %v", roots, got, want)
		}
	case 1, 2, 3:
		w, i, x := anyWord(r, m), r.Intn(6)-1, anyWord(r, m)
		if got, want := h.Set(w, i, x), m.set(w, i, x); got != want {
			t.Fatalf("Set(%d, %d, %d) = %v, want %v", w, i, x, got, want)
		}
	default:
		kind, fields := r.Intn(140)-5, anyWords(r, m, 4)
		got, err := h.Alloc(kind, fields...)
		want, wantErr := m.alloc(kind, fields)
		if got != want || err != wantErr {
			t.Fatalf("Alloc(%d, %v) = %d, %v, want %d, %v", kind, fields, got, err, want, wantErr)
		}
	}
}
