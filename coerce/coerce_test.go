package coerce_test

import (
	"math"
	"slices"
	"strconv"
	"strings"
	"testing"

	"bezel/api"
	"bezel/coerce"
)

// The coercions of the tests are written as texts: {} is the identity; a letter of letters with a label blames a flat tag; P and a label blames pairs, ({..} {..}) wraps them by car and cdr, [{..}] and a label (or none) wraps them as lists; F and a label blames procedures, <{..} {..}> wraps them by arguments and result, ! closes them.

const letters = "ibsynv"

// c is the coercion of a text.
func c(s string) coerce.C {
	p := parser{rest: strings.ReplaceAll(s, " ", "")}
	answer := p.coercion()
	if p.rest != "" {
		panic("not the text of a coercion: " + s)
	}
	return answer
}

type parser struct{ rest string }

// eat takes the text s off the rest, if it stands there.
func (p *parser) eat(s string) bool {
	rest, ok := strings.CutPrefix(p.rest, s)
	p.rest = rest
	return ok
}

// label takes a number off the rest; 0 if there is none.
func (p *parser) label() int {
	digits := p.rest[:len(p.rest)-len(strings.TrimLeft(p.rest, "-0123456789"))]
	p.eat(digits)
	n, _ := strconv.Atoi(digits)
	return n
}

// row takes coercions off the rest, up to end.
func (p *parser) row(end string) []coerce.C {
	var l []coerce.C
	for !p.eat(end) {
		l = append(l, p.coercion())
	}
	return l
}

func (p *parser) coercion() coerce.C {
	var x coerce.C
	if !p.eat("{") {
		panic("no coercion at " + p.rest)
	}
	for !p.eat("}") {
		switch {
		case p.eat("P"):
			x.Pair, x.PairLabel = 1, p.label()
		case p.eat("("):
			x.Pair, x.Pairs = 2, p.row(")")
		case p.eat("["):
			x.Pair, x.Pairs = 3, p.row("]")
			x.PairLabel = p.label()
		case p.eat("F"):
			x.Fun, x.FunLabel = 1, p.label()
		case p.eat("<"):
			x.Fun, x.Funs = 2, p.row(">")
		case p.eat("!"):
			x.Fun = 3
		default:
			i := strings.IndexByte(letters, p.rest[0])
			p.rest = p.rest[1:]
			x.Flat[i] = p.label()
		}
	}
	return x
}

// show is the text of a coercion, in which nothing is left out.
func show(x coerce.C) string {
	s := ""
	add := func(words ...string) { s += strings.Join(words, "") + " " }
	for i, label := range x.Flat {
		if label != 0 {
			add(letters[i:i+1], strconv.Itoa(label))
		}
	}
	showPairs(x, add)
	showFuns(x, add)
	return "{" + strings.TrimSuffix(s, " ") + "}"
}

func showPairs(x coerce.C, add func(words ...string)) {
	label := strconv.Itoa(x.PairLabel)
	switch {
	case x.Pair == 0 && x.PairLabel == 0 && len(x.Pairs) == 0:
	case x.Pair == 1 && len(x.Pairs) == 0:
		add("P", label)
	case x.Pair == 2 && x.PairLabel == 0:
		add("(", showRow(x.Pairs), ")")
	case x.Pair == 3 && x.PairLabel == 0:
		add("[", showRow(x.Pairs), "]")
	case x.Pair == 3:
		add("[", showRow(x.Pairs), "]", label)
	default:
		add("pair?", strconv.Itoa(x.Pair), "?", label, "?", showRow(x.Pairs))
	}
}

func showFuns(x coerce.C, add func(words ...string)) {
	label := strconv.Itoa(x.FunLabel)
	switch {
	case x.Fun == 0 && x.FunLabel == 0 && len(x.Funs) == 0:
	case x.Fun == 1 && len(x.Funs) == 0:
		add("F", label)
	case x.Fun == 2 && x.FunLabel == 0:
		add("<", showRow(x.Funs), ">")
	case x.Fun == 3 && x.FunLabel == 0 && len(x.Funs) == 0:
		add("!")
	default:
		add("fun?", strconv.Itoa(x.Fun), "?", label, "?", showRow(x.Funs))
	}
}

func showRow(l []coerce.C) string {
	var texts []string
	for _, x := range l {
		texts = append(texts, show(x))
	}
	return strings.Join(texts, " ")
}

// equal compares all fields, without Same, which is under test. It can't tell nil slices from empty ones (R2).
func equal(a, b coerce.C) bool {
	return a.Flat == b.Flat && a.Pair == b.Pair && a.PairLabel == b.PairLabel && a.Fun == b.Fun && a.FunLabel == b.FunLabel && slices.EqualFunc(a.Pairs, b.Pairs, equal) && slices.EqualFunc(a.Funs, b.Funs, equal)
}

// clone is a deep copy of x.
func clone(x coerce.C) coerce.C {
	x.Pairs, x.Funs = cloneRow(x.Pairs), cloneRow(x.Funs)
	return x
}

func cloneRow(l []coerce.C) []coerce.C {
	var answer []coerce.C
	for _, x := range l {
		answer = append(answer, clone(x))
	}
	return answer
}

// repeated is a slice of so many times x, none of which share anything.
func repeated(x coerce.C, times int) []coerce.C {
	var l []coerce.C
	for range times {
		l = append(l, clone(x))
	}
	return l
}

// nested is x within so many coercions, each made by wrap.
func nested(x coerce.C, levels int, wrap func(coerce.C) coerce.C) coerce.C {
	for range levels {
		x = wrap(x)
	}
	return x
}

// wraps are the places in which a coercion that is not the identity may stand within a valid one.
func wraps() map[string]func(coerce.C) coerce.C {
	pairs := func(l ...coerce.C) coerce.C { return coerce.C{Pair: 2, Pairs: l} }
	funs := func(l ...coerce.C) coerce.C { return coerce.C{Fun: 2, Funs: l} }
	return map[string]func(coerce.C) coerce.C{
		"car":         func(x coerce.C) coerce.C { return pairs(x, coerce.C{}) },
		"cdr":         func(x coerce.C) coerce.C { return pairs(coerce.C{}, x) },
		"second":      func(x coerce.C) coerce.C { return pairs(c("{i1}"), x) },
		"list":        func(x coerce.C) coerce.C { return coerce.C{Pair: 3, Pairs: []coerce.C{x}} },
		"list, label": func(x coerce.C) coerce.C { return coerce.C{Pair: 3, PairLabel: 7, Pairs: []coerce.C{x}} },
		"only result": func(x coerce.C) coerce.C { return funs(x) },
		"argument":    func(x coerce.C) coerce.C { return funs(x, coerce.C{}) },
		"result":      func(x coerce.C) coerce.C { return funs(coerce.C{}, x) },
		"middle":      func(x coerce.C) coerce.C { return funs(c("{v3}"), x, c("{P9}")) },
		"last of 9":   func(x coerce.C) coerce.C { return funs(append(repeated(coerce.C{}, 8), x)...) },
		"first of 9":  func(x coerce.C) coerce.C { return funs(append([]coerce.C{x}, repeated(c("{!}"), 8)...)...) },
		"after flats": func(x coerce.C) coerce.C {
			return coerce.C{Flat: [6]int{1, 2, 3, 4, 5, 99}, Pair: 2, Pairs: []coerce.C{c("{i1}"), c("{F2}")}, Fun: 2, Funs: []coerce.C{x}}
		},
		"in pairs, before procedures": func(x coerce.C) coerce.C {
			return coerce.C{Pair: 3, Pairs: []coerce.C{x}, Fun: 3}
		},
	}
}

// inItself is a coercion whose elements, so many of them, are the coercion itself.
func inItself(pair, pairs, fun, funs int) coerce.C {
	x := coerce.C{Flat: [6]int{1}, Pair: pair, Pairs: make([]coerce.C, pairs), Fun: fun, Funs: make([]coerce.C, funs)}
	for _, l := range [][]coerce.C{x.Pairs, x.Funs} {
		for i := range l {
			l[i] = x
		}
	}
	return x
}

// endless are coercions that contain themselves.
func endless() []coerce.C {
	return []coerce.C{inItself(3, 1, 0, 0), inItself(2, 2, 0, 0), inItself(0, 0, 2, 1), inItself(0, 0, 2, 9), inItself(2, 2, 2, 3), inItself(3, 1, 2, 2), inItself(7, 5, -1, 40)}
}

// odd are coercions that are far from valid.
func odd() []coerce.C {
	var l []coerce.C
	for pair := -1; pair <= 4; pair++ {
		for n := range 4 {
			for fun := -1; fun <= 4; fun++ {
				l = append(l, coerce.C{Flat: [6]int{-1, 100, math.MinInt, math.MaxInt}, Pair: pair, PairLabel: -7, Pairs: repeated(c("{i1}"), n), Fun: fun, FunLabel: 1000, Funs: repeated(c("{i1}"), n*4)})
			}
		}
	}
	return l
}

// labels are numbers, each with whether it is a label, or 0.
func labels() map[int]bool {
	return map[int]bool{0: true, 1: true, 2: true, 50: true, 98: true, 99: true, 100: false, 101: false, 255: false, 256: false, 1 << 32: false, 1<<32 + 5: false, -1: false, -99: false, math.MaxInt: false, math.MinInt: false}
}

// The texts of the tests say all of a coercion.
func TestTexts(t *testing.T) {
	for _, s := range []string{"{}", "{i1 b2 s3 y4 n5 v99}", "{P1}", "{({i1} {})}", "{[{}]5}", "{[{i1}]}", "{F7}", "{!}", "{<{}>}", "{<{i1} {} {P3}>}", "{i1 [{({} {<{b2}>})}]9 <{[{!}]}>}", "{i-1 P-2 F100}"} {
		if got := show(c(s)); got != s {
			t.Errorf("%s becomes %s", s, got)
		}
	}
	if x := c("{n5 [{v6}]7 <{} {F8}>}"); x.Flat != [6]int{4: 5} || x.Pair != 3 || x.PairLabel != 7 || len(x.Pairs) != 1 || x.Pairs[0].Flat != [6]int{5: 6} || x.Fun != 2 || x.FunLabel != 0 || len(x.Funs) != 2 || x.Funs[1].Fun != 1 || x.Funs[1].FunLabel != 8 {
		t.Error(x)
	}
}

// P7.1: valid coercions, and what is none.
func TestRight(t *testing.T) {
	for s, want := range map[string]bool{
		"{}": true, "{i1}": true, "{v99}": true, "{i1 b2 s3 y4 n5 v6 P7 F8}": true, "{i100}": false, "{i-1}": false,
		"{P1}": true, "{P99}": true, "{P0}": false, "{P100}": false, "{P-1}": false,
		"{({i1} {})}": true, "{({} {i1})}": true, "{({i1} {i1})}": true, "{({} {})}": false, "{({i1})}": false, "{()}": false, "{({i1} {i1} {i1})}": false,
		"{[{}]1}": true, "{[{}]99}": true, "{[{}]100}": false, "{[{}]}": false, "{[{}]-1}": false, "{[{i1}]}": true, "{[{i1}]99}": true, "{[{i1}]100}": false, "{[{i1}]-1}": false, "{[]1}": false, "{[{i1} {i1}]1}": false,
		"{F1}": true, "{F99}": true, "{F0}": false, "{F100}": false, "{F-1}": false, "{!}": true,
		"{<{i1}>}": true, "{<{}>}": false, "{<>}": false, "{<{} {}>}": false, "{<{} {i1}>}": true, "{<{i1} {}>}": true,
		"{<{} {} {} {} {} {} {} {} {i1}>}": true, "{<{} {} {} {} {} {} {} {} {}>}": false, "{<{} {} {} {} {} {} {} {} {} {i1}>}": false, "{<{i1} {i1} {i1} {i1} {i1} {i1} {i1} {i1} {i1}>}": true, "{<{i1} {i1} {i1} {i1} {i1} {i1} {i1} {i1} {i1} {i1}>}": false,
		"{({!} {[{P1}]5}) <{<{n3}>} {}>}": true, "{({!} {[{P1}]5}) <{<{n3 P0}>} {}>}": false, "{({!} {[{P100}]5})}": false, "{({} {[{}]})}": false, "{[{<{}>}]5}": false,
	} {
		if got := coerce.Right(c(s)); got != want {
			t.Errorf("%s: %v", s, got)
		}
	}
}

// P7.1: labels in each field, at the edges.
func TestRightLabels(t *testing.T) {
	for n, is := range labels() {
		for i := range 6 {
			x := coerce.C{}
			x.Flat[i] = n
			y := c("{i1 b2 s3 y4 n5 v6 [{i1}]1 <{} {i1}>}")
			y.Flat[i] = n
			if coerce.Right(x) != is || coerce.Right(y) != is {
				t.Errorf("%d of flat tag %d", n, i)
			}
		}
		for s, want := range map[string]bool{"{}": n == 0, "{P1}": is && n != 0, "{({i1} {})}": n == 0, "{[{}]1}": is && n != 0, "{[{i1}]}": is} {
			x := c(s)
			x.PairLabel = n
			if coerce.Right(x) != want {
				t.Errorf("PairLabel %d in %s", n, s)
			}
		}
		for s, want := range map[string]bool{"{}": n == 0, "{F1}": is && n != 0, "{<{i1}>}": n == 0, "{<{} {} {i1}>}": n == 0, "{!}": n == 0} {
			x := c(s)
			x.FunLabel = n
			if coerce.Right(x) != want {
				t.Errorf("FunLabel %d in %s", n, s)
			}
		}
	}
}

// rows are all slices of up to most elements, each of which is the identity or one other coercion.
func rows(most int) [][]coerce.C {
	l := [][]coerce.C{nil}
	for n := 1; n <= most; n++ {
		for bits := range 1 << n {
			var row []coerce.C
			for i := range n {
				row = append(row, []coerce.C{{}, c("{i1}")}[bits>>i&1])
			}
			l = append(l, row)
		}
	}
	return l
}

// P7.1: each Pair and each Fun with each number of elements and labels, by the words of the chapter.
func TestRightFields(t *testing.T) {
	numbers := []int{math.MinInt, -2, -1, 0, 1, 2, 3, 4, 5, 256, 1 << 32, math.MaxInt}
	for _, kind := range numbers {
		for _, row := range rows(4) {
			for _, label := range []int{0, 1, 99} {
				some := slices.ContainsFunc(row, func(x coerce.C) bool { return x.Flat[0] != 0 })
				want := kind == 0 && len(row) == 0 && label == 0 || kind == 1 && len(row) == 0 && label != 0 || kind == 2 && len(row) == 2 && label == 0 && some || kind == 3 && len(row) == 1 && (label != 0 || some)
				if x := (coerce.C{Pair: kind, PairLabel: label, Pairs: row}); coerce.Right(x) != want {
					t.Errorf("%s: not %v", show(x), want)
				}
			}
		}
		for _, row := range rows(11) {
			for _, label := range []int{0, 1, 99} {
				some := slices.ContainsFunc(row, func(x coerce.C) bool { return x.Flat[0] != 0 })
				want := kind == 0 && len(row) == 0 && label == 0 || kind == 1 && len(row) == 0 && label != 0 || kind == 2 && len(row) >= 1 && len(row) <= 9 && label == 0 && some || kind == 3 && len(row) == 0 && label == 0
				if x := (coerce.C{Fun: kind, FunLabel: label, Funs: row}); coerce.Right(x) != want {
					t.Errorf("%s: not %v", show(x), want)
				}
			}
		}
	}
}

// P7.1: a coercion within another one must be valid too, in each place and at each level.
func TestRightWithin(t *testing.T) {
	for place, wrap := range wraps() {
		for levels := 1; levels <= 24; levels++ {
			for s, want := range map[string]bool{"{i1}": true, "{!}": true, "{i100}": false, "{v-1}": false, "{P0}": false, "{F0}": false, "{F100}": false, "{({} {})}": false, "{({i1})}": false, "{[{}]}": false, "{<{}>}": false, "{<>}": false} {
				if levels == 24 && strings.ContainsAny(s, "([<") {
					continue // too high anyway
				}
				if x := nested(c(s), levels, wrap); coerce.Right(x) != want {
					t.Errorf("%s, %d levels deep as %s: not %v", s, levels, place, want)
				}
			}
		}
	}
}

// P7.1: the Height of a valid coercion is at most 25; Height and Size of what is nested.
func TestHeights(t *testing.T) {
	for place, wrap := range wraps() {
		x, height, size := c("{i1}"), 1, 1
		more := coerce.Size(wrap(x)) - 1
		for height <= 30 {
			if coerce.Right(x) != (height <= 25) || coerce.Height(x) != height || coerce.Size(x) != size {
				t.Errorf("%s: %d, %d; %v, %d, %d", place, height, size, coerce.Right(x), coerce.Height(x), coerce.Size(x))
			}
			x, height, size = wrap(x), height+1, size+more
		}
	}
	left := nested(c("{i1}"), 10, wraps()["car"])
	if x := (coerce.C{Pair: 2, Pairs: []coerce.C{left, nested(c("{i1}"), 24, wraps()["cdr"])}}); coerce.Right(x) || coerce.Height(x) != 26 {
		t.Error("a Height of 26 in the second place")
	}
	if x := (coerce.C{Pair: 3, Pairs: []coerce.C{left}, Fun: 2, Funs: []coerce.C{left, nested(c("{i1}"), 24, wraps()["list"])}}); coerce.Right(x) || coerce.Height(x) != 26 {
		t.Error("a Height of 26 in the result")
	}
}

// P7.1: Height and Size by example.
func TestHeightAndSize(t *testing.T) {
	for _, x := range []struct {
		s            string
		height, size int
	}{
		{"{}", 1, 1}, {"{i1 b2 P3 F4}", 1, 1}, {"{!}", 1, 1}, {"{({} {i1})}", 2, 3}, {"{({} {})}", 2, 3}, {"{[{}]5}", 2, 2}, {"{<{i1}>}", 2, 2}, {"{<{} {} {} {} {} {} {} {} {i1}>}", 2, 10},
		{"{({} {i1}) <{} {i1}>}", 2, 5}, {"{[{[{[{i1}]}]}]}", 4, 4}, {"{({[{i1}]} {i1})}", 3, 4}, {"{({i1} {[{i1}]})}", 3, 4}, {"{[{i1}] <{} {[{[{}]1}]}>}", 4, 6}, {"{[{[{[{}]1}]}] <{} {i1}>}", 4, 6}, {"{<{<{<{i1} {}>} {}>} {}>}", 4, 7},
		{"{()}", 1, 1}, {"{<{} {} {} {} {} {} {} {} {} {} {}>}", 2, 12},
	} {
		if got := c(x.s); coerce.Height(got) != x.height || coerce.Size(got) != x.size {
			t.Errorf("%s: %d, %d", x.s, coerce.Height(got), coerce.Size(got))
		}
	}
	for _, x := range odd() {
		size, height := 1+len(x.Pairs)+len(x.Funs), min(2, 1+len(x.Pairs)) // there are four Funs for each of Pairs
		if coerce.Size(x) != size || coerce.Height(x) != height {
			t.Errorf("%s: %d, %d", show(x), coerce.Height(x), coerce.Size(x))
		}
	}
}

// changes are x with one difference each, in each single field.
func changes(x coerce.C) []coerce.C {
	var l []coerce.C
	change := func(how func(y *coerce.C)) {
		y := clone(x)
		how(&y)
		l = append(l, y)
	}
	for i := range 6 {
		change(func(y *coerce.C) { y.Flat[i]++ })
	}
	change(func(y *coerce.C) { y.Pair ^= 1 })
	change(func(y *coerce.C) { y.PairLabel++ })
	change(func(y *coerce.C) { y.Fun ^= 1 })
	change(func(y *coerce.C) { y.FunLabel++ })
	change(func(y *coerce.C) { y.Pairs = append(y.Pairs, coerce.C{}) })
	change(func(y *coerce.C) { y.Funs = append(y.Funs, coerce.C{}) })
	if len(x.Pairs) > 0 {
		change(func(y *coerce.C) { y.Pairs = y.Pairs[:len(y.Pairs)-1] })
		change(func(y *coerce.C) { y.Pairs = y.Pairs[1:] })
	}
	if len(x.Funs) > 0 {
		change(func(y *coerce.C) { y.Funs = y.Funs[:len(y.Funs)-1] })
		change(func(y *coerce.C) { y.Funs, y.Pairs = y.Pairs, y.Funs })
	}
	return l
}

// P7.1: Same with no difference and with one in each single field, at each level.
func TestSame(t *testing.T) {
	for _, s := range []string{"{}", "{i1 b2 s3 y4 n5 v6 ({i1} {i2}) <{b1} {b2} {b3}>}", "{[{i1}]4 <{P1}>}", "{P3 F4}", "{i-5 P0 F1000}", "{!}"} {
		x := c(s)
		if !coerce.Same(x, x) || !coerce.Same(x, clone(x)) {
			t.Errorf("%s is not the same as itself", s)
		}
		for i, y := range changes(x) {
			if coerce.Same(x, y) || coerce.Same(y, x) {
				t.Errorf("%s: change %d is not seen", s, i)
			}
			for place, wrap := range wraps() {
				for levels := 1; levels <= 4; levels++ {
					a, b := nested(x, levels, wrap), nested(y, levels, wrap)
					if coerce.Same(a, b) || !coerce.Same(a, clone(a)) || !coerce.Same(b, clone(b)) {
						t.Errorf("%s: change %d as %s is not seen", s, i, place)
					}
				}
			}
		}
	}
}

// P7.1: Same of all pairs of some coercions; R2: nil slices are empty ones.
func TestSameOfAll(t *testing.T) {
	all := append(someCoercions(), odd()...)
	for i, a := range all {
		for j, b := range all {
			if coerce.Same(a, b) != equal(a, b) || i == j && !coerce.Same(a, clone(b)) {
				t.Fatalf("%s and %s", show(a), show(b))
			}
		}
	}
	empty := coerce.C{Pairs: []coerce.C{}, Funs: make([]coerce.C, 0, 3)}
	if !coerce.Same(empty, coerce.C{}) || !coerce.Same(coerce.C{}, empty) || !coerce.Pass(empty) || !coerce.Right(empty) || coerce.Height(empty) != 1 || coerce.Size(empty) != 1 {
		t.Error("empty slices")
	}
}

// P7.1: the identity, and what differs from it in a single field.
func TestPass(t *testing.T) {
	if !coerce.Pass(coerce.C{}) {
		t.Error("the identity")
	}
	for i, x := range changes(coerce.C{}) {
		if coerce.Pass(x) {
			t.Errorf("change %d", i)
		}
	}
	for _, s := range []string{"{({} {})}", "{[{}]}", "{<{}>}", "{<{} {}>}", "{P0}", "{F0}", "{!}", "{i-1}", "{()}", "{[]}", "{<>}"} {
		if coerce.Pass(c(s)) {
			t.Errorf("%s is not the identity", s)
		}
	}
}

// P7.2: whom each coercion blames for each tag, and what it wraps.
func TestFirstAndWraps(t *testing.T) {
	flats := "i1 b2 s3 y4 n5 v6 "
	numbers := []int{math.MinInt, math.MinInt + 1, -256, -128, -64, -32, -8, -4, -2, -1, 512, 1024, 1 << 16, 1 << 31, 1 << 32, 1 << 40, 1 << 62, math.MaxInt, 1<<32 + 1, 1<<32 + 64}
	for i := range 300 {
		numbers = append(numbers, i)
	}
	for _, pairs := range []string{"", "P7", "({i9} {})", "[{i9}]8", "[{i9}]"} {
		for _, funs := range []string{"", "F10", "<{i9}>", "<{} {i9}>", "!"} {
			x := c("{" + flats + pairs + funs + "}")
			want := map[int]int{1: 1, 2: 2, 4: 3, 8: 4, 16: 5, 32: 6, 64: 0, 128: 0}
			if pairs == "P7" {
				want[64] = 7
			}
			if funs == "F10" {
				want[128] = 10
			}
			wraps := map[int]bool{64: strings.ContainsAny(pairs, "(["), 128: strings.ContainsAny(funs, "<!")}
			for _, tag := range numbers {
				if got := coerce.First(x, tag); got != want[tag] {
					t.Errorf("%s: First %d of %d", show(x), got, tag)
				}
				if got := coerce.Wraps(x, tag); got != wraps[tag] {
					t.Errorf("%s: Wraps %v of %d", show(x), got, tag)
				}
			}
		}
	}
	for _, tag := range numbers {
		if coerce.First(coerce.C{}, tag) != 0 || coerce.Wraps(coerce.C{}, tag) {
			t.Errorf("the identity blames someone, or wraps something, of tag %d", tag)
		}
		if tag != 64 && coerce.First(c("{P7}"), tag) != 0 || tag != 128 && coerce.First(c("{F7}"), tag) != 0 {
			t.Errorf("a label of another tag than %d", tag)
		}
	}
}

// P7.2: the parts of coercions of pairs.
func TestCarAndCdr(t *testing.T) {
	for _, x := range []struct{ s, car, cdr string }{
		{"{}", "{}", "{}"}, {"{i1 b2 s3 y4 n5 v6}", "{}", "{}"}, {"{P5}", "{}", "{}"}, {"{P5 <{i1} {b2}>}", "{}", "{}"}, {"{<{i1} {b2}>}", "{}", "{}"}, {"{!}", "{}", "{}"}, {"{F4}", "{}", "{}"},
		{"{({i1} {})}", "{i1}", "{}"}, {"{({} {i1})}", "{}", "{i1}"}, {"{i9 ({b2} {[{s3}]4}) <{v1}>}", "{b2}", "{[{s3}]4}"}, {"{({({i1} {b2})} {<{s3}>})}", "{({i1} {b2})}", "{<{s3}>}"}, {"{({P1} {F2})}", "{P1}", "{F2}"},
		{"{[{}]5}", "{}", "{i5 b5 s5 y5 v5 [{}]5 F5}"}, {"{[{}]99}", "{}", "{i99 b99 s99 y99 v99 [{}]99 F99}"},
		{"{[{i1}]}", "{i1}", "{[{i1}]}"}, {"{i7 n8 v9 [{i1}] F6}", "{i1}", "{[{i1}]}"}, {"{i7 n8 v9 [{i1}]3 F6}", "{i1}", "{i3 b3 s3 y3 v3 [{i1}]3 F3}"}, {"{[{i1}]1 !}", "{i1}", "{i1 b1 s1 y1 v1 [{i1}]1 F1}"},
		{"{[{[{n2}]4 <{} {P1}>}]}", "{[{n2}]4 <{} {P1}>}", "{[{[{n2}]4 <{} {P1}>}]}"}, {"{[{({i1} {})}]7}", "{({i1} {})}", "{i7 b7 s7 y7 v7 [{({i1} {})}]7 F7}"},
	} {
		if got := show(coerce.Car(c(x.s))); got != x.car {
			t.Errorf("car of %s: %s", x.s, got)
		}
		if got := show(coerce.Cdr(c(x.s))); got != x.cdr {
			t.Errorf("cdr of %s: %s", x.s, got)
		}
	}
	// the list coercion of the identity and of no label is the identity
	if x := c("{[{}]}"); !coerce.Pass(coerce.Car(x)) || !coerce.Pass(coerce.Cdr(x)) {
		t.Error("lists of which everything passes")
	}
}

// P7.2, P7.1: the parts of lists are lists as far as one goes, and valid.
func TestCdrOfLists(t *testing.T) {
	for _, item := range someCoercions() {
		for label := range 100 {
			x := coerce.C{Pair: 3, PairLabel: label, Pairs: []coerce.C{item}}
			if !coerce.Right(x) {
				continue
			}
			car, cdr := coerce.Car(x), coerce.Cdr(x)
			if !equal(car, item) || !coerce.Right(cdr) || coerce.First(cdr, api.TagNull) != 0 || !coerce.Wraps(cdr, api.TagPair) || !equal(coerce.Cdr(cdr), cdr) || !equal(coerce.Car(cdr), item) {
				t.Fatalf("%s: %s and %s", show(x), show(car), show(cdr))
			}
			for _, tag := range []int{1, 2, 4, 8, 32, 128} {
				if coerce.First(cdr, tag) != label {
					t.Fatalf("%s: tag %d of %s", show(x), tag, show(cdr))
				}
			}
		}
	}
}

// rowsOf are the slices within x that have elements.
func rowsOf(x coerce.C) [][]coerce.C {
	var l [][]coerce.C
	for _, row := range [][]coerce.C{x.Pairs, x.Funs} {
		if cap(row) > 0 {
			l = append(l, row)
		}
		for _, y := range row {
			l = append(l, rowsOf(y)...)
		}
	}
	return l
}

// owns reports whether no two slices within x share memory, and none does with one of others.
func owns(x coerce.C, others ...coerce.C) bool {
	seen := map[*coerce.C]bool{}
	for _, other := range others {
		for _, row := range rowsOf(other) {
			seen[&row[:1][0]] = true
		}
	}
	for _, row := range rowsOf(x) {
		if seen[&row[:1][0]] {
			return false
		}
		seen[&row[:1][0]] = true
	}
	return true
}

// R3: the parts are the caller's own, and the argument is left as it was.
func TestPartsAreOwn(t *testing.T) {
	for _, x := range append(someCoercions(), c("{[{[{n2}]4 <{} {({i1} {i2})}>}]5}"), c("{({({i1} {i2})} {<{[{s3}]4}>})}")) {
		before := clone(x)
		car, cdr := coerce.Car(x), coerce.Cdr(x)
		if !owns(car, x, cdr) || !owns(cdr, x, car) {
			t.Fatalf("%s shares memory with its parts", show(x))
		}
		coerce.Right(x)
		coerce.Same(x, x)
		coerce.Height(x)
		coerce.Size(x)
		if !equal(x, before) {
			t.Fatalf("%s was %s", show(x), show(before))
		}
	}
}

// P0: every call ends, and none panics, on coercions that are not valid, that contain themselves, or that are very high.
func TestOddCoercions(t *testing.T) {
	for _, x := range append(odd(), endless()...) {
		if coerce.Right(x) {
			t.Errorf("%d, %d is valid", x.Pair, x.Fun)
		}
		if coerce.Pass(x) {
			t.Errorf("%d, %d is the identity", x.Pair, x.Fun)
		}
		coerce.Same(x, x)
		coerce.Height(x)
		coerce.Size(x)
		for tag := -1; tag < 257; tag++ {
			coerce.First(x, tag)
			coerce.Wraps(x, tag)
		}
		coerce.Car(x)
		coerce.Cdr(x)
	}
}

// P7.1: 2^16 levels are within the document's limits.
func TestDeep(t *testing.T) {
	for place, wrap := range wraps() {
		levels := mostLevels(wrap)
		more := coerce.Size(wrap(c("{i1}"))) - 1
		a, b, other := nested(c("{i1}"), levels-1, wrap), nested(c("{i1}"), levels-1, wrap), nested(c("{i2}"), levels-1, wrap)
		if coerce.Height(a) != levels || coerce.Size(a) != 1+more*(levels-1) || coerce.Right(a) || !coerce.Same(a, b) || coerce.Same(a, other) || coerce.Pass(a) {
			t.Error(place)
		}
	}
	const levels = 1 << 16
	car := coerce.Car(nested(c("{i1}"), levels-1, wraps()["car"]))
	if coerce.Height(car) != levels-1 {
		t.Error("car", coerce.Height(car))
	}
	cdr := coerce.Cdr(nested(c("{i1}"), levels-1, wraps()["list, label"]))
	if coerce.Height(cdr) != levels {
		t.Error("cdr", coerce.Height(cdr))
	}
}

// P7.1: a valid coercion may be very wide: it has 2^21 - 1 coercions here.
func TestWide(t *testing.T) {
	x := c("{i1}")
	for range 20 {
		x = coerce.C{Pair: 2, Pairs: []coerce.C{x, x}}
	}
	if !coerce.Right(x) || coerce.Height(x) != 21 || coerce.Size(x) != 1<<21-1 || !coerce.Same(x, x) {
		t.Error(coerce.Height(x), coerce.Size(x))
	}
	if y := coerce.Cdr(x); coerce.Size(y) != 1<<20-1 || !coerce.Right(y) {
		t.Error(coerce.Size(y))
	}
}
