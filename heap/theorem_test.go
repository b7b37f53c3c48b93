package heap_test

import (
	"math/rand"
	"slices"
	"testing"

	"bezel/heap"
)

// linked walks through two heaps side by side, from the words of one and those of the other: whether they lead to the same contents and the same references. Where they do, each object of the one has an object of the other as its partner. It answers too how many words these objects have.
func linked(a, b *heap.Heap, ofA, ofB []uint64) (int, bool) {
	words := 0
	partner, taken := map[uint64]uint64{}, map[uint64]bool{}
	var same func(x, y uint64) bool
	same = func(x, y uint64) bool {
		kind, ok := a.Kind(x)
		if !ok {
			return x == y
		}
		if p, has := partner[x]; has || taken[y] {
			return p == y
		}
		partner[x], taken[y] = y, true
		words += 1 + a.Len(x)
		if other, ok := b.Kind(y); !ok || other != kind || a.Len(x) != b.Len(y) {
			return false
		}
		for i := range a.Len(x) {
			f, _ := a.Field(x, i)
			g, _ := b.Field(y, i)
			if kind >= 64 && f != g || kind < 64 && !same(f, g) {
				return false
			}
		}
		return true
	}
	all := slices.EqualFunc(ofA, ofB, same)
	return words, all
}

// shapes are the kinds and the numbers of fields of small heaps.
func shapes(most int) [][]object {
	var all [][]object
	for _, kind := range []int{63, 64} {
		for count := range 3 {
			all = append(all, []object{{kind: kind, fields: make([]uint64, count)}})
		}
	}
	single := all
	last := all
	for range most - 1 {
		var next [][]object
		for _, a := range last {
			for _, b := range single {
				next = append(next, append(slices.Clone(a), b...))
			}
		}
		all, last = append(all, next...), next
	}
	return all
}

// eachRow calls visit with all rows of so many of these words.
func eachRow(count int, words []uint64, visit func([]uint64)) {
	row := make([]uint64, count)
	var fill func(i int)
	fill = func(i int) {
		if i == count {
			visit(row)
			return
		}
		for _, w := range words {
			row[i] = w
			fill(i + 1)
		}
	}
	fill(0)
}

// wordsOf is the words of the objects of a shape, and one that refers to none of them: now 0, now a number's, now one of the inside of an object or of what comes behind them.
func wordsOf(shape []object, turn int) []uint64 {
	var l []uint64
	at := 1
	for _, o := range shape {
		l = append(l, heap.Ptr(at))
		at += 1 + len(o.fields)
	}
	none := []uint64{0, heap.Num(3), heap.Ptr(at), 7, heap.Ptr(at + 1), heap.Imm(1)}
	if len(shape[0].fields) > 0 {
		none = append(none, heap.Ptr(2), heap.Ptr(2))
	}
	return append(l, none[turn%len(none)])
}

// P8.4 and P8.3: all heaps of up to 3 objects of up to 2 fields, held against one another before and after, and against the model.
func TestTheorem(t *testing.T) {
	turn := 0
	for _, shape := range shapes(3) {
		count := 0
		for _, o := range shape {
			count += len(o.fields)
		}
		turn++
		words := wordsOf(shape, turn)
		if count > 4 { // so that the test does not take long, with one root alone
			eachRow(count, words, func(fields []uint64) {
				for k := range words {
					theorem(t, shape, fields, words[k:k+1])
				}
			})
			continue
		}
		for roots := range 3 {
			eachRow(roots, words, func(given []uint64) {
				eachRow(count, words, func(fields []uint64) { theorem(t, shape, fields, given) })
			})
		}
	}
}

// theorem makes two heaps of a shape with these fields, one behind the other, and collects one of them, twice.
func theorem(t *testing.T, shape []object, fields, roots []uint64) {
	t.Helper()
	before, h, m := made(t, 16), made(t, 16), &model{capacity: 16}
	for _, o := range shape {
		own := fields[:len(o.fields)]
		fields = fields[len(o.fields):]
		put(t, before, o.kind, own...)
		put(t, h, o.kind, own...)
		m.alloc(o.kind, own)
	}
	got, want := h.Collect(roots), m.collect(roots)
	if !slices.Equal(got, want) {
		t.Fatalf("Collect(%v) = %v, want %v", roots, got, want)
	}
	agree(t, h, m, "Collect")
	words, same := linked(before, h, roots, got)
	if !same {
		t.Fatalf("Collect(%v) = %v: they lead to others in %v than in %v", roots, got, contents(h), contents(before))
	}
	if h.Used() != words {
		t.Fatalf("Used is %d, reachable are %d", h.Used(), words)
	}
	again := h.Collect(got)
	if !slices.Equal(again, got) {
		t.Fatalf("a second Collect(%v) = %v", got, again)
	}
	agree(t, h, m, "a second Collect")
}

// P8.4: greater heaps, with lists, circles and objects that are shared.
func TestTheoremGreat(t *testing.T) {
	for seed := range int64(40) {
		r := rand.New(rand.NewSource(seed))
		before, h := made(t, 1<<14), made(t, 1<<14)
		var l []uint64
		for before.Room() > 100 {
			kind, fields := 1+r.Intn(127), make([]uint64, r.Intn(6))
			l = append(l, put(t, before, kind, fields...))
			put(t, h, kind, fields...)
		}
		for _, w := range l {
			for i := range before.Len(w) {
				x := heap.Num(i)
				if r.Intn(2) > 0 {
					x = l[r.Intn(len(l))]
				}
				before.Set(w, i, x)
				h.Set(w, i, x)
			}
		}
		roots := []uint64{l[r.Intn(len(l))], heap.Num(1), l[r.Intn(len(l))]}
		got := h.Collect(roots)
		words, same := linked(before, h, roots, got)
		if !same || h.Used() != words {
			t.Fatalf("Collect(%v) = %v: same %v, Used %d, reachable %d", roots, got, same, h.Used(), words)
		}
		all := contents(h)
		if again := h.Collect(got); !slices.Equal(again, got) || !sameObjects(contents(h), all) {
			t.Fatalf("a second Collect(%v) = %v", got, again)
		}
	}
}
