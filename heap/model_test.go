package heap_test

import (
	"slices"
	"testing"

	"bezel/api"
	"bezel/heap"
)

// object is one of a model's: its address is told, not worked out of a memory.
type object struct {
	at, kind int
	fields   []uint64
}

// model is a heap said once more, in the words of the chapter: a list of objects.
type model struct {
	capacity int
	objects  []object
}

func (m *model) used() int {
	n := 0
	for _, o := range m.objects {
		n += 1 + len(o.fields)
	}
	return n
}

// find is which of the objects w refers to; -1 if none.
func (m *model) find(w uint64) int {
	return slices.IndexFunc(m.objects, func(o object) bool { return w == 4*uint64(o.at) })
}

func (m *model) alloc(kind int, fields []uint64) (uint64, api.Errno) {
	if kind < 1 || kind > 127 || len(fields) > 65536 {
		return 0, api.ErrArg
	}
	if m.used()+1+len(fields) > m.capacity {
		return 0, api.ErrMem
	}
	o := object{1 + m.used(), kind, slices.Clone(fields)}
	m.objects = append(m.objects, o)
	return 4 * uint64(o.at), api.OK
}

func (m *model) set(w uint64, i int, x uint64) api.Errno {
	k := m.find(w)
	if k < 0 || i < 0 || i >= len(m.objects[k].fields) {
		return api.ErrArg
	}
	m.objects[k].fields[i] = x
	return api.OK
}

// collect first lists the objects that stay, then works out where they come to stand, and only then replaces words.
func (m *model) collect(roots []uint64) []uint64 {
	var stay []int
	visit := func(words []uint64) {
		for _, w := range words {
			if k := m.find(w); k >= 0 && !slices.Contains(stay, k) {
				stay = append(stay, k)
			}
		}
	}
	visit(roots)
	for i := 0; i < len(stay); i++ {
		if o := m.objects[stay[i]]; o.kind < 64 {
			visit(o.fields)
		}
	}
	next, at := 1, make([]int, len(m.objects))
	for _, k := range stay {
		at[k] = next
		next += 1 + len(m.objects[k].fields)
	}
	replaced := func(words []uint64) []uint64 {
		l := make([]uint64, len(words))
		for i, w := range words {
			l[i] = w
			if k := m.find(w); k >= 0 {
				l[i] = 4 * uint64(at[k])
			}
		}
		return l
	}
	answer := replaced(roots)
	var objects []object
	for _, k := range stay {
		o := object{at[k], m.objects[k].kind, m.objects[k].fields}
		if o.kind < 64 {
			o.fields = replaced(o.fields)
		}
		objects = append(objects, o)
	}
	m.objects = objects
	return answer
}

// differs tells where h is not what m says, asked with all words up to some beyond the last object; empty if nowhere.
func differs(h *heap.Heap, m *model) string {
	if h.Used() != m.used() {
		return "Used"
	}
	if h.Room() != m.capacity-m.used() {
		return "Room"
	}
	next := 0 // of the objects, the one to which the words come next
	for w := uint64(0); w < 4*uint64(m.used()+3); w++ {
		var o object
		refers := next < len(m.objects) && w == 4*uint64(m.objects[next].at)
		if refers {
			o = m.objects[next]
			next++
		}
		if kind, ok := h.Kind(w); kind != o.kind || ok != refers {
			return "Kind"
		}
		if h.Len(w) != len(o.fields) {
			return "Len"
		}
		for i := -1; i <= len(o.fields); i++ {
			want, has := uint64(0), i >= 0 && i < len(o.fields)
			if has {
				want = o.fields[i]
			}
			if got, ok := h.Field(w, i); got != want || ok != has {
				return "Field"
			}
		}
	}
	return ""
}

func agree(t *testing.T, h *heap.Heap, m *model, after string) {
	t.Helper()
	if what := differs(h, m); what != "" {
		t.Fatalf("%s: %s is not what the model says", after, what)
	}
}

// made is a new heap of so many words.
func made(t *testing.T, words int) *heap.Heap {
	t.Helper()
	h, err := heap.New(words)
	if h == nil || err != api.OK {
		t.Fatalf("New(%d) = %v, %v", words, h, err)
	}
	return h
}

// put is the word of a new object.
func put(t *testing.T, h *heap.Heap, kind int, fields ...uint64) uint64 {
	t.Helper()
	w, err := h.Alloc(kind, fields...)
	if err != api.OK {
		t.Fatalf("Alloc of kind %d with %d fields: %v", kind, len(fields), err)
	}
	return w
}

// contents is the objects of a heap, as they stand one behind the other.
func contents(h *heap.Heap) []object {
	var l []object
	for at := 1; at <= h.Used(); {
		o := object{at: at}
		o.kind, _ = h.Kind(heap.Ptr(at))
		for i := range h.Len(heap.Ptr(at)) {
			x, _ := h.Field(heap.Ptr(at), i)
			o.fields = append(o.fields, x)
		}
		l = append(l, o)
		at += 1 + len(o.fields)
	}
	return l
}

func sameObjects(a, b []object) bool {
	return slices.EqualFunc(a, b, func(x, y object) bool {
		return x.at == y.at && x.kind == y.kind && slices.Equal(x.fields, y.fields)
	})
}
