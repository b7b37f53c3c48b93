package heap_test

import (
	"math"
	"slices"
	"testing"

	"bezel/api"
	"bezel/heap"
)

// ptr is the word of an address; the tests below are full of them.
func ptr(at int) uint64 { return heap.Ptr(at) }

// P8.3: heaps before and after a collection.
func TestCollect(t *testing.T) {
	one, two := heap.Num(1), heap.Imm(2)
	for _, x := range []struct {
		name    string
		objects []object // before; their addresses are worked out
		roots   []uint64
		answer  []uint64
		after   []object
	}{
		{"no roots on an empty heap", nil, nil, nil, nil},
		{"no roots", []object{{kind: 1, fields: []uint64{one}}, {kind: 64}}, nil, nil, nil},
		{"roots on an empty heap", nil, []uint64{0, 4, 8, one, two, math.MaxUint64}, []uint64{0, 4, 8, one, two, math.MaxUint64}, nil},
		{"roots that refer to nothing", // one of them to the inside of an object, one to what comes behind the last
			[]object{{kind: 1, fields: []uint64{one, two}}}, []uint64{0, 5, 6, 7, ptr(2), ptr(3), ptr(4), ptr(17)}, []uint64{0, 5, 6, 7, ptr(2), ptr(3), ptr(4), ptr(17)}, nil},
		{"one object that stays where it is", []object{{kind: 1, fields: []uint64{one, two}}}, []uint64{ptr(1)}, []uint64{ptr(1)}, []object{{1, 1, []uint64{one, two}}}},
		{"one that moves", []object{{kind: 5, fields: []uint64{two}}, {kind: 1, fields: []uint64{one}}}, []uint64{ptr(3)}, []uint64{ptr(1)}, []object{{1, 1, []uint64{one}}}},
		{"the same root twice", []object{{kind: 5}, {kind: 1}, {kind: 2}}, []uint64{ptr(3), ptr(2), ptr(3)}, []uint64{ptr(1), ptr(2), ptr(1)}, []object{{1, 2, nil}, {2, 1, nil}}},
		{"roots between words of nothing", []object{{kind: 5}, {kind: 1}}, []uint64{one, ptr(2), 0, ptr(3), ptr(2), two}, []uint64{one, ptr(1), 0, ptr(3), ptr(1), two}, []object{{1, 1, nil}}},
		{"an object of itself", []object{{kind: 5}, {kind: 1, fields: []uint64{ptr(2), one, ptr(2)}}}, []uint64{ptr(2)}, []uint64{ptr(1)}, []object{{1, 1, []uint64{ptr(1), one, ptr(1)}}}},
		{"two of each other", []object{{kind: 1, fields: []uint64{ptr(3)}}, {kind: 2, fields: []uint64{ptr(1)}}}, []uint64{ptr(3)}, []uint64{ptr(1)}, []object{{1, 2, []uint64{ptr(3)}}, {3, 1, []uint64{ptr(1)}}}},
		{"a circle that nothing refers to", []object{{kind: 1, fields: []uint64{ptr(3)}}, {kind: 2, fields: []uint64{ptr(1)}}, {kind: 3}}, []uint64{ptr(5)}, []uint64{ptr(1)}, []object{{1, 3, nil}}},
		{"one that two refer to", []object{{kind: 1}, {kind: 2, fields: []uint64{ptr(1)}}, {kind: 3, fields: []uint64{ptr(1), ptr(2)}}}, []uint64{ptr(4), ptr(2)}, []uint64{ptr(1), ptr(4)}, []object{{1, 3, []uint64{ptr(6), ptr(4)}}, {4, 2, []uint64{ptr(6)}}, {6, 1, nil}}},
		{"roots ahead of fields", []object{{kind: 1}, {kind: 2, fields: []uint64{ptr(1)}}, {kind: 3}}, []uint64{ptr(2), ptr(4)}, []uint64{ptr(1), ptr(3)}, []object{{1, 2, []uint64{ptr(4)}}, {3, 3, nil}, {4, 1, nil}}},
		{"fields of the first ahead of fields of the second", // two at the roots, each of two, of which the first one again of one
			[]object{{kind: 1}, {kind: 2, fields: []uint64{ptr(1)}}, {kind: 3}, {kind: 4}, {kind: 5}, {kind: 6, fields: []uint64{ptr(2), ptr(4)}}, {kind: 7, fields: []uint64{ptr(5), ptr(6)}}},
			[]uint64{ptr(10), ptr(7)}, []uint64{ptr(1), ptr(4)},
			[]object{{1, 7, []uint64{ptr(7), ptr(8)}}, {4, 6, []uint64{ptr(9), ptr(11)}}, {7, 4, nil}, {8, 5, nil}, {9, 2, []uint64{ptr(12)}}, {11, 3, nil}, {12, 1, nil}}},
		{"a plain object's fields are not looked at", []object{{kind: 1}, {kind: 64, fields: []uint64{ptr(1), ptr(2), ptr(4)}}}, []uint64{ptr(2)}, []uint64{ptr(1)}, []object{{1, 64, []uint64{ptr(1), ptr(2), ptr(4)}}}},
		{"nor those of the greatest kind", []object{{kind: 1}, {kind: 127, fields: []uint64{ptr(1), ptr(2)}}}, []uint64{ptr(2), ptr(1)}, []uint64{ptr(1), ptr(4)}, []object{{1, 127, []uint64{ptr(1), ptr(2)}}, {4, 1, nil}}},
		{"but those of kind 63", []object{{kind: 1}, {kind: 63, fields: []uint64{ptr(1), ptr(2)}}}, []uint64{ptr(2)}, []uint64{ptr(1)}, []object{{1, 63, []uint64{ptr(4), ptr(1)}}, {4, 1, nil}}},
		{"a plain object that others refer to", []object{{kind: 64, fields: []uint64{ptr(3)}}, {kind: 1, fields: []uint64{ptr(1)}}}, []uint64{ptr(3)}, []uint64{ptr(1)}, []object{{1, 1, []uint64{ptr(3)}}, {3, 64, []uint64{ptr(3)}}}},
		{"fields of words that refer to nothing", []object{{kind: 9}, {kind: 1, fields: []uint64{0, 5, 6, 7, ptr(3), ptr(10), ptr(1 << 40), math.MaxUint64 - 3}}}, []uint64{ptr(2)}, []uint64{ptr(1)}, []object{{1, 1, []uint64{0, 5, 6, 7, ptr(3), ptr(10), ptr(1 << 40), math.MaxUint64 - 3}}}},
	} {
		h := made(t, 64)
		for _, o := range x.objects {
			put(t, h, o.kind, o.fields...)
		}
		if got := h.Collect(x.roots); !slices.Equal(got, x.answer) {
			t.Errorf("%s: Collect(%v) = %v, want %v", x.name, x.roots, got, x.answer)
		}
		if got := contents(h); !sameObjects(got, x.after) {
			t.Errorf("%s: the objects are %v, want %v", x.name, got, x.after)
		}
		agree(t, h, &model{64, x.after}, x.name)
	}
}

// P8.3: a full heap that is reachable stays full; one that is not is empty, and takes as much as a new one.
func TestCollectFull(t *testing.T) {
	for _, words := range []int{16, 63, 64, 65, 1000, 1 << 20} {
		h := made(t, words)
		last := put(t, h, 1, heap.Num(0), 0)
		for h.Room() >= 3 {
			last = put(t, h, 1, heap.Num(h.Used()), last)
		}
		for h.Room() > 0 {
			last = put(t, h, 2, make([]uint64, h.Room()-1)...)
		}
		used := 3 * (words / 3)
		roots := []uint64{ptr(used - 2), last}
		roots = h.Collect(roots)
		if h.Room() != 0 || h.Used() != words || roots[0] != 4 {
			t.Fatalf("%d words: Used %d after Collect, roots %v", words, h.Used(), roots)
		}
		if _, err := h.Alloc(1); err != api.ErrMem {
			t.Errorf("%d words: Alloc on a full heap: %v", words, err)
		}
		checkChain(t, h, roots[0], used)
		roots = h.Collect(roots[:1])
		if h.Used() != used || h.Room() != words-used {
			t.Errorf("%d words: Used %d with the chain alone", words, h.Used())
		}
		checkChain(t, h, roots[0], used)
		h.Collect(nil)
		if h.Used() != 0 || h.Room() != words {
			t.Errorf("%d words: Used %d after Collect of nothing", words, h.Used())
		}
	}
}

// checkChain follows objects of three words from the one that came last to the one that came first.
func checkChain(t *testing.T, h *heap.Heap, w uint64, used int) {
	t.Helper()
	for at := used - 3; at >= 0; at -= 3 {
		if x, ok := h.Field(w, 0); x != heap.Num(at) || !ok {
			t.Fatalf("the chain has %d, %v, want %d", x, ok, heap.Num(at))
		}
		w, _ = h.Field(w, 1)
	}
	if w != 0 {
		t.Fatalf("the chain ends with %d", w)
	}
}

// P8.3: words of before refer to nothing after it, unless an object happens to start there; the words behind an object are free.
func TestOldWords(t *testing.T) {
	h := made(t, 32)
	gone := put(t, h, 1, heap.Num(1))
	kept := put(t, h, 2, heap.Num(2), heap.Num(3))
	last := put(t, h, 3)
	h.Collect([]uint64{last, kept})
	if kind, ok := h.Kind(gone); kind != 3 || !ok { // the last object stands there now
		t.Errorf("Kind of the first place is %d, %v", kind, ok)
	}
	for _, w := range []uint64{kept, last} {
		if kind, ok := h.Kind(w); kind != 0 || ok {
			t.Errorf("Kind of the old word %d is %d, %v", w, kind, ok)
		}
		if x, ok := h.Field(w, 0); x != 0 || ok || h.Len(w) != 0 || h.Set(w, 0, 1) != api.ErrArg {
			t.Errorf("the old word %d refers to an object", w)
		}
	}
	agree(t, h, &model{32, []object{{1, 3, nil}, {2, 2, []uint64{heap.Num(2), heap.Num(3)}}}}, "old words")
	h.Collect(nil)
	for _, w := range []uint64{gone, kept, last, ptr(2)} {
		if _, ok := h.Kind(w); ok {
			t.Errorf("the old word %d refers to an object of an empty heap", w)
		}
	}
}

// P8.3: objects that come after a collection stand behind those that stay, in all the room that has become free.
func TestAllocAfterCollect(t *testing.T) {
	for round, words := 0, 40; round < 40; round++ {
		h, m := made(t, words), &model{capacity: words}
		for h.Room() > 3 {
			fields := []uint64{heap.Num(round), ptr(1 + h.Used()), ptr(round)}
			put(t, h, 1+h.Room(), fields...)
			m.alloc(1+m.capacity-m.used(), fields)
		}
		roots := []uint64{ptr(1 + round)}
		if got, want := h.Collect(roots), m.collect(roots); !slices.Equal(got, want) {
			t.Fatalf("Collect(%v) = %v, want %v", roots, got, want)
		}
		room := h.Room()
		if _, err := h.Alloc(1, make([]uint64, room)...); err != api.ErrMem {
			t.Fatalf("a word more than has become free: %v", err)
		}
		fields := make([]uint64, room-1)
		for i := range fields {
			fields[i] = ptr(i)
		}
		w, _ := m.alloc(2, fields)
		if got := put(t, h, 2, fields...); got != w {
			t.Fatalf("the new word is %d, want %d", got, w)
		}
		agree(t, h, m, "Alloc after Collect")
		if got, want := h.Collect([]uint64{w}), m.collect([]uint64{w}); !slices.Equal(got, want) {
			t.Fatalf("Collect(%d) = %v, want %v", w, got, want)
		}
		agree(t, h, m, "a second Collect")
	}
}

// P8.3: a word that refers to no object yet is a word like others when roots or fields have it; when an object stands there, it is a reference.
func TestWordBeforeObjectCollected(t *testing.T) {
	h := made(t, 32)
	put(t, h, 9)
	a := put(t, h, 1, ptr(4), heap.Num(5)) // at 2, up to 4
	soon := ptr(5)
	h.Set(a, 0, soon)
	roots := h.Collect([]uint64{soon, a})
	if !slices.Equal(roots, []uint64{soon, ptr(1)}) || !sameObjects(contents(h), []object{{1, 1, []uint64{soon, heap.Num(5)}}}) {
		t.Fatalf("roots %v, objects %v", roots, contents(h))
	}
	put(t, h, 8) // at 4
	if w := put(t, h, 2, heap.Num(6)); w != soon {
		t.Fatalf("the new word is %d", w)
	}
	roots = h.Collect([]uint64{soon, roots[1]})
	want := []object{{1, 2, []uint64{heap.Num(6)}}, {3, 1, []uint64{ptr(1), heap.Num(5)}}}
	if !slices.Equal(roots, []uint64{ptr(1), ptr(3)}) || !sameObjects(contents(h), want) {
		t.Errorf("roots %v, objects %v", roots, contents(h))
	}
}

// P8.3 and R3: the roots that are given stay as they are, and those that are answered are the caller's.
func TestCollectCopies(t *testing.T) {
	h := made(t, 32)
	put(t, h, 9)
	a := put(t, h, 1, heap.Num(5), ptr(2))
	room := []uint64{a, heap.Num(3), 77, 78}
	roots := room[:2]
	answer := h.Collect(roots)
	if !slices.Equal(room, []uint64{a, heap.Num(3), 77, 78}) {
		t.Errorf("the roots that were given are %v", room)
	}
	before := contents(h)
	for i := range answer {
		answer[i] = heap.Num(99)
	}
	_ = append(answer, 1, 2, 3)
	roots[0] = 55
	if !sameObjects(contents(h), before) {
		t.Error("a change of the roots changes the heap")
	}
	again := h.Collect([]uint64{ptr(1)})
	h.Set(ptr(1), 0, heap.Num(8))
	h.Collect(nil)
	put(t, h, 2, 1, 2, 3)
	if !slices.Equal(again, []uint64{ptr(1)}) || !slices.Equal(answer, []uint64{heap.Num(99), heap.Num(99)}) {
		t.Errorf("the answers became %v and %v", again, answer)
	}
}

// P8.3: many roots, of a heap of many small objects, in a row that begins with the last.
func TestCollectManyRoots(t *testing.T) {
	h := made(t, 1<<20)
	var roots []uint64
	for i := range 1 << 19 {
		roots = append(roots, put(t, h, 1+i%127, heap.Num(i)))
	}
	slices.Reverse(roots)
	answer := h.Collect(append(roots, roots...))
	for i := range 1 << 19 {
		w := ptr(1 + 2*i)
		if answer[i] != w || answer[i+1<<19] != w {
			t.Fatalf("root %d is %d and %d, want %d", i, answer[i], answer[i+1<<19], w)
		}
		n := 1<<19 - 1 - i
		kind, _ := h.Kind(w)
		if x, _ := h.Field(w, 0); x != heap.Num(n) || kind != 1+n%127 {
			t.Fatalf("object %d has the kind %d and the field %d", i, kind, x)
		}
	}
}

// P8.3: a root that refers to nothing stays, also if an object comes to stand just there; the next collection then follows it.
func TestRootBecomesReference(t *testing.T) {
	h := made(t, 16)
	put(t, h, 9, heap.Num(1))
	put(t, h, 1)
	put(t, h, 2)
	roots := h.Collect([]uint64{ptr(2), ptr(3), ptr(4)})
	if !slices.Equal(roots, []uint64{ptr(2), ptr(1), ptr(2)}) || !sameObjects(contents(h), []object{{1, 1, nil}, {2, 2, nil}}) {
		t.Fatalf("roots %v, objects %v", roots, contents(h))
	}
	roots = h.Collect(roots)
	if !slices.Equal(roots, []uint64{ptr(1), ptr(2), ptr(1)}) || !sameObjects(contents(h), []object{{1, 2, nil}, {2, 1, nil}}) {
		t.Errorf("roots %v, objects %v", roots, contents(h))
	}
}
