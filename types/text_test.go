package types_test

import (
	"strings"
	"testing"

	"bezel/api"
	"bezel/datum"
	"bezel/types"
)

func sym(s string) api.Datum { return api.Datum{Kind: api.Sym, Text: s} }

// row is a list of a word and other data.
func row(word string, l ...api.Datum) api.Datum {
	return api.Datum{Kind: api.List, List: append([]api.Datum{sym(word)}, l...)}
}

// dat is the datum with the text s.
func dat(t *testing.T, s string) api.Datum {
	t.Helper()
	l, _, code := datum.Read(s)
	if code != api.OK || len(l) != 1 {
		t.Fatalf("%q is not a datum", s)
	}
	return l[0]
}

// reads fails unless Read of d answers x.
func reads(t *testing.T, name string, d api.Datum, x api.Type) {
	t.Helper()
	if got, code := types.Read(d); code != api.OK || !equal(got, x) {
		t.Errorf("%s: %+v, %d, not %+v", name, got, code, x)
	}
}

// fails fails unless Read of d answers just that error.
func fails(t *testing.T, name string, d api.Datum, code api.Errno) {
	t.Helper()
	if got, gotCode := types.Read(d); gotCode != code || !equal(got, nothing) {
		t.Errorf("%s: %+v, %d, not error %d", name, got, gotCode, code)
	}
}

// plainTypes are texts of types without U, each the text of its Datum too.
func plainTypes() map[string]api.Type {
	return map[string]api.Type{
		"Int": flat(1), "Bool": flat(2), "Str": flat(4), "Sym": flat(8), "Null": flat(16), "Void": flat(32),
		"Any": anything, "Nothing": nothing, "Proc": allFuns,
		"(Pair Int Str)": pair(flat(1), flat(4)), "(Pair Str Int)": pair(flat(4), flat(1)), "(Pair Any Nothing)": pair(anything, nothing), "(Pair Null (Pair Int Proc))": pair(flat(16), pair(flat(1), allFuns)),
		"(List Int)": list(flat(1)), "(List Nothing)": list(nothing), "(List Null)": list(flat(16)), "(List (List1 (List Any)))": list(list1(list(anything))),
		"(List1 Int)": list1(flat(1)), "(List1 Nothing)": list1(nothing), "(List1 (Pair Int Int))": list1(pair(flat(1), flat(1))),
		"(-> Int)": fun(flat(1)), "(-> Int Str)": fun(flat(1), flat(4)), "(-> Int Str Bool)": fun(flat(1), flat(4), flat(2)), "(-> (-> Int) Proc Any)": fun(fun(flat(1)), allFuns, anything), "(-> Nothing Nothing)": fun(nothing, nothing),
		"(-> Int Int Int Int Int Int Int Int Str)": fun(append(repeated(flat(1), 8), flat(4))...),
	}
}

// P5.2 and P5.3: types without U, read and printed.
func TestPlainTypes(t *testing.T) {
	for s, x := range plainTypes() {
		reads(t, s, dat(t, s), x)
		if got := text(x); got != s {
			t.Errorf("%s: %s", s, got)
		}
	}
}

// unions are texts of unions that Datum prints as they are.
func unions() map[string]api.Type {
	return map[string]api.Type{
		"(U Int Bool)": flat(3), "(U Int Void)": flat(33), "(U Int Bool Str Sym Null Void)": flat(63), "(U Bool Sym Void)": flat(42), "(U Str Null)": flat(20),
		"(U Int (Pair Int Str))":               {Flat: 1, Pair: 1, Pairs: []api.Type{flat(1), flat(4)}},
		"(U Null (Pair Int Str))":              {Flat: 16, Pair: 1, Pairs: []api.Type{flat(1), flat(4)}},
		"(U Int (List1 Str))":                  {Flat: 1, Pair: 2, Pairs: []api.Type{flat(4)}},
		"(U Int (List Str))":                   {Flat: 17, Pair: 2, Pairs: []api.Type{flat(4)}},
		"(U Int Bool Str Sym Void (List Str))": {Flat: 63, Pair: 2, Pairs: []api.Type{flat(4)}},
		"(U Int Proc)":                         {Flat: 1, Fun: 2},
		"(U Null Proc)":                        {Flat: 16, Fun: 2},
		"(U Null (-> Int))":                    {Flat: 16, Fun: 1, Funs: []api.Type{flat(1)}},
		"(U (List Int) Proc)":                  {Flat: 16, Pair: 2, Pairs: []api.Type{flat(1)}, Fun: 2},
		"(U (List1 Int) (-> Int Str))":         {Pair: 2, Pairs: []api.Type{flat(1)}, Fun: 1, Funs: []api.Type{flat(1), flat(4)}},
		"(U (Pair Int Str) Proc)":              {Pair: 1, Pairs: []api.Type{flat(1), flat(4)}, Fun: 2},
		"(U Void (Pair Int (U Int Str)) (-> (U Int Str) (U Null Proc)))": {Flat: 32, Pair: 1, Pairs: []api.Type{flat(1), flat(5)}, Fun: 1, Funs: []api.Type{flat(5), {Flat: 16, Fun: 2}}},
		"(List (U Int Str))":                  list(flat(5)),
		"(List1 (U Int (List (U Int Proc))))": list1(api.Type{Flat: 17, Pair: 2, Pairs: []api.Type{{Flat: 1, Fun: 2}}}),
	}
}

// P5.2 and P5.3: unions, read and printed.
func TestUnions(t *testing.T) {
	for s, x := range unions() {
		reads(t, s, dat(t, s), x)
		if got := text(x); got != s {
			t.Errorf("%s: %s", s, got)
		}
	}
}

// P5.2: unions of other forms denote what comes of joining their types.
func TestReadJoins(t *testing.T) {
	for s, want := range map[string]string{
		"(U)": "Nothing", "(U Nothing)": "Nothing", "(U (U) (U))": "Nothing", "(U Int)": "Int", "(U (U (U Int)))": "Int", "(U Any)": "Any", "(U Proc)": "Proc", "(U (List Int))": "(List Int)", "(U (Pair Int Int))": "(Pair Int Int)", "(U (-> Int))": "(-> Int)",
		"(U Str Int)": "(U Int Str)", "(U Int Int Int)": "Int", "(U Void Null Sym Str Bool Int)": "(U Int Bool Str Sym Null Void)", "(U Int (U Str Int) (U (U Null)))": "(U Int Str Null)",
		"(U Int Any)": "Any", "(U Any Int)": "Any", "(U Int (U Str Any) Proc)": "Any", "(Pair (U) (U Any Int))": "(Pair Nothing Any)",
		"(U Null (List1 Int))": "(List Int)", "(U (List1 Int) Null)": "(List Int)", "(U Null Int (List1 Int))": "(U Int (List Int))", "(U (List Int) (List Str))": "(List (U Int Str))", "(U (List1 Int) (List1 Str) (List1 Void))": "(List1 (U Int Str Void))",
		"(U (Pair Int Str) (Pair Bool Str))": "(Pair (U Int Bool) Str)", "(U (Pair Int Str) (Pair Bool Str) (Pair Null Any))": "(Pair (U Int Bool Null) Any)",
		"(U (List1 Int) (Pair Str Null))": "(Pair (U Int Str) (List Int))", "(U (Pair Str Null) (List1 Int))": "(Pair (U Int Str) (List Int))", "(U (List Int) (List Str) (Pair Bool Bool))": "(U Null (Pair (U Int Bool Str) (U Bool (List (U Int Str)))))", "(U (Pair Bool Bool) (List Int) (List Str))": "(U Null (Pair (U Int Bool Str) (U Bool (List (U Int Str)))))", "(U (List Int) (Pair Bool Bool) (List Str))": "(U Null (Pair (U Int Bool Str) (U Bool (List (U Int Str)))))",
		"(U (Pair Int Null) (Pair Int Null))": "(Pair Int Null)", "(U (Pair Int (U Int Str)) (Pair Int (U Null Void)))": "(Pair Int (U Int Str Null Void))",
		"(U (-> Int) (-> Int))": "(-> Int)", "(U (-> Int) (-> Str))": "Proc", "(U (-> Int) (-> Int) (-> Int Int))": "Proc", "(U (-> Int Int) (-> Int))": "Proc", "(U (-> Int) Proc)": "Proc", "(U Proc (-> Int))": "Proc", "(U (-> Int) Int (-> Int))": "(U Int (-> Int))", "(U (-> Int) (-> Str) (-> Int))": "Proc", "(U (-> Int) (-> Str) (-> Str))": "Proc",
		"(U (-> (U Int Str)) (-> (U Str Int)))": "(-> (U Int Str))", "(U (-> (U Int Any)) (-> Any))": "(-> Any)", "(U (-> (U (List Int) (Pair Int Int))) (-> (U Null (Pair (U Int) (U Int (List Int))))))": "(-> (U Null (Pair Int (U Int (List Int)))))", "(U (-> (U (-> Int) (-> Str))) (-> Proc))": "(-> Proc)", "(U (-> (U (-> Int) (-> Int))) (-> Proc))": "Proc", "(U (-> (List1 (U))) (-> (List1 Nothing)))": "(-> (List1 Nothing))",
		"(U (Pair (-> Int) Int) (Pair (-> Int) Int))": "(Pair (-> Int) Int)", "(U (Pair (-> Int) Int) (Pair (-> Str) Int))": "(Pair Proc Int)", "(U (List (-> Int)) (List (-> Str)))": "(List Proc)",
		"(List (U Null (List1 Int)))": "(List (List Int))", "(-> (U Int Str) (U) (U (-> Int) (-> Str)))": "(-> (U Int Str) Nothing Proc)",
		"(U Null (Pair Int Any))": "(U Null (Pair Int Any))",
	} {
		x, code := types.Read(dat(t, s))
		if got := text(x); code != api.OK || got != want {
			t.Errorf("%s: %s, %d, not %s", s, got, code, want)
		}
	}
}

// P5.2: of a symbol only Text counts, of a list only List.
func TestReadOddData(t *testing.T) {
	odd := func(s string) api.Datum {
		return api.Datum{Kind: api.Sym, Text: s, List: []api.Datum{{Kind: 9}, {Kind: api.List}}}
	}
	oddRow := func(l ...api.Datum) api.Datum { return api.Datum{Kind: api.List, Text: "Any 1 (", List: l} }
	reads(t, "a symbol", odd("Int"), flat(1))
	reads(t, "Any", odd("Any"), anything)
	reads(t, "a pair", oddRow(odd("Pair"), odd("Int"), oddRow(odd("List"), odd("Str"))), pair(flat(1), list(flat(4))))
	reads(t, "a union", oddRow(odd("U"), odd("Int"), oddRow(odd("->"), odd("Proc"))), api.Type{Flat: 1, Fun: 1, Funs: []api.Type{allFuns}})
	reads(t, "a list", oddRow(odd("List1"), odd("Nothing")), list1(nothing))
	fails(t, "a list without elements", oddRow(), api.ErrForm)
	fails(t, "an unknown symbol", odd("Foo"), api.ErrForm)
}

// wrongTypeData are data that are not those of types.
func wrongTypeData(t *testing.T) map[string]api.Datum {
	l := map[string]api.Datum{}
	for _, s := range strings.Split("1|0|-1|\"Int\"|\"\"|#t|#f|()|(())|((Int))|((Pair) Int Int)|(1)|(1 Int)|(\"Pair\" Int Int)|(\"U\")|(#t Int)|((U) Int)|"+
		"int|INT|Ints|In|Integer|any|nothing|proc|U|u|Pair|List|List1|->|Fun|quote|-|.|"+
		"(Int)|(Int Int)|(Any)|(Any Any)|(Nothing)|(Proc)|(Proc Int)|(Foo)|(Foo Int)|(u Int)|(pair Int Int)|(list Int)|(List2 Int)|(- Int)|(-> -> Int)|(Int -> Int)|(quote Int)|"+
		"(Pair)|(Pair Int)|(Pair Int Int Int)|(Pair Int Int Int Int)|(List)|(List Int Int)|(List Int Int Int)|(List1)|(List1 Int Int)|(->)", "|") {
		l[s] = dat(t, s)
	}
	for _, kind := range []int{-1 << 63, -2, -1, 0, 2, 3, 4, 6, 7, 1<<63 - 1} {
		name := "kind " + string(rune('A'+kind&15))
		l[name+" Int"] = api.Datum{Kind: kind, Text: "Int"}
		l[name+" Any"] = api.Datum{Kind: kind, Text: "Any", List: []api.Datum{sym("U")}}
		l[name+" (List Int)"] = api.Datum{Kind: kind, List: []api.Datum{sym("List"), sym("Int")}}
		l[name+" within"] = api.Datum{Kind: api.List, List: []api.Datum{{Kind: kind, Text: "U"}}}
	}
	for _, s := range []string{"", " Int", "Int ", "Int\x00", "Any\n", "(List Int)", "()", "List Int", "\xc3\xa9"} {
		l["the symbol "+s] = sym(s)
	}
	l["only a list in it"] = api.Datum{Kind: api.List, List: []api.Datum{{Kind: api.List}}}
	l["the symbol of a list"] = api.Datum{Kind: api.List, Text: "Int"}
	return l
}

// P5.2: data that are not those of types, alone and wherever a type may stand.
func TestReadWrongData(t *testing.T) {
	for name, d := range wrongTypeData(t) {
		fails(t, name, d, api.ErrForm)
		for i, x := range []api.Datum{
			row("Pair", d, sym("Int")), row("Pair", sym("Int"), d), row("List", d), row("List1", d), row("->", d), row("->", d, sym("Int")), row("->", sym("Int"), d), row("->", sym("Int"), d, sym("Int")),
			row("U", d), row("U", sym("Any"), d), row("U", d, sym("Any")), row("U", sym("Proc"), row("->", d)), row("U", row("->", d), sym("Proc")), row("List", row("U", sym("Int"), row("Pair", sym("Any"), d))),
		} {
			fails(t, name+" in place "+string(rune('a'+i)), x, api.ErrForm)
		}
	}
}

// P5.2: the number of types behind each word.
func TestReadCounts(t *testing.T) {
	for word, right := range map[string]func(int) bool{
		"Pair":  func(n int) bool { return n == 2 },
		"List":  func(n int) bool { return n == 1 },
		"List1": func(n int) bool { return n == 1 },
		"->":    func(n int) bool { return n >= 1 },
		"U":     func(int) bool { return true },
		"Int":   func(int) bool { return false },
		"Tuple": func(int) bool { return false },
	} {
		for n := range 30 {
			var l []api.Datum
			for range n {
				l = append(l, sym("Str"))
			}
			want := api.OK
			switch {
			case !right(n):
				want = api.ErrForm
			case word == "->" && n > 9:
				want = api.ErrMany
			}
			x, code := types.Read(row(word, l...))
			if code != want || code != api.OK && !equal(x, nothing) {
				t.Errorf("%s of %d: %+v, %d", word, n, x, code)
			}
			if word == "->" && code == api.OK && !equal(x, fun(repeated(flat(4), n)...)) {
				t.Errorf("-> of %d: %+v", n, x)
			}
		}
	}
}

// spelt is a datum of x, valid or not, with each part of x in a place of its own.
func spelt(x api.Type) api.Datum {
	if x.All {
		return sym("Any")
	}
	d := row("U")
	for i, name := range []string{"Int", "Bool", "Str", "Sym", "Null", "Void"} {
		if x.Flat&(1<<i) != 0 {
			d.List = append(d.List, sym(name))
		}
	}
	words := []string{"", "Pair", "List1"}
	var pairs, funs []api.Datum
	for _, y := range x.Pairs {
		pairs = append(pairs, spelt(y))
	}
	for _, y := range x.Funs {
		funs = append(funs, spelt(y))
	}
	if x.Pair > 0 {
		d.List = append(d.List, row(words[x.Pair], pairs...))
	}
	switch x.Fun {
	case 1:
		d.List = append(d.List, row("->", funs...))
	case 2:
		d.List = append(d.List, sym("Proc"))
	}
	return d
}

// notValid are data of types that are not valid.
func notValid() map[string]api.Datum {
	l := map[string]api.Datum{"10 types": spelt(fun(repeated(flat(1), 10)...)), "100 types": spelt(fun(repeated(anything, 100)...)), "301 types": spelt(ofSize(301)), "1000 types": spelt(ofSize(1000))}
	for place, wrap := range wraps() {
		l["21 levels as "+place] = spelt(nested(flat(1), 20, wrap))
		l["30 levels as "+place] = spelt(nested(anything, 29, wrap))
		l["10 types as "+place] = spelt(wrap(fun(repeated(flat(1), 10)...)))
		l["301 types as "+place] = spelt(wrap(ofSize(300)))
	}
	return l
}

// P5.2: a type that is not valid is too much, wherever it stands; 20 levels and 300 types are not.
func TestReadTooMuch(t *testing.T) {
	for name, d := range notValid() {
		fails(t, name, d, api.ErrMany)
		for i, x := range []api.Datum{row("Pair", d, sym("Int")), row("Pair", sym("Int"), d), row("List", d), row("List1", d), row("->", d), row("->", sym("Int"), d), row("U", d), row("U", d, sym("Int")), row("U", sym("Int"), d, sym("Null")), row("U", row("->", d), row("->", d)), row("U", row("->", row("U", d)), row("U", row("->", d)))} {
			fails(t, name+" in place "+string(rune('a'+i)), x, api.ErrMany)
		}
	}
	for place, wrap := range wraps() {
		x := nested(flat(1), 19, wrap)
		reads(t, place, spelt(x), x)
	}
	for n := 1; n < 700; n++ {
		if x := ofSize(n); n <= 300 {
			reads(t, "some types", spelt(x), x)
		} else {
			fails(t, "too many types", spelt(x), api.ErrMany)
		}
	}
}

// P5.2: an error of the form comes ahead of too much, on either side of it and within it.
func TestReadErrorOrder(t *testing.T) {
	for name, d := range notValid() {
		for wrong, bad := range map[string]api.Datum{"Foo": sym("Foo"), "(Pair Int)": row("Pair", sym("Int")), "()": {Kind: api.List}, "1": {Kind: api.Num, Text: "1"}} {
			for i, x := range []api.Datum{row("Pair", d, bad), row("Pair", bad, d), row("->", d, d, bad), row("U", d, bad), row("U", bad, d), row("U", d, sym("Any"), bad), row("List1", row("->", row("List", d), row("U", bad)))} {
				fails(t, name+" and "+wrong+" in place "+string(rune('a'+i)), x, api.ErrForm)
			}
		}
		fails(t, name+" twice in a list of one", row("List", d, d), api.ErrForm)
		fails(t, name+" alone in a pair", row("Pair", d), api.ErrForm)
		fails(t, name+" behind no word", row("Foo", d), api.ErrForm)
	}
	deep := func(inner string) api.Datum {
		d := sym(inner)
		for range 1 << 14 {
			d = row("List", d)
		}
		return d
	}
	fails(t, "very deep", deep("Int"), api.ErrMany)
	fails(t, "wrong and very deep", deep("Foo"), api.ErrForm)
}

// P5.2: a type that is not valid may go in a union: then the whole is what counts.
func TestReadUnionOfTooMuch(t *testing.T) {
	for name, d := range notValid() {
		reads(t, name+" in Any", row("U", d, sym("Any")), anything)
		reads(t, "Any with "+name, row("U", sym("Any"), d), anything)
		reads(t, name+" in Any below", row("List", row("U", row("Pair", d, d), row("U", sym("Int"), sym("Any")))), list(anything))
		reads(t, name+" in Proc", row("U", row("->", d), sym("Proc"), sym("Int")), api.Type{Flat: 1, Fun: 2})
		reads(t, "Proc with "+name, row("U", sym("Proc"), row("->", d)), allFuns)
		reads(t, "Int or "+name, row("U", row("->", d), row("->", sym("Int"))), allFuns)
		reads(t, name+" twice or more", row("U", row("->", d), row("->", d, d)), allFuns)
		reads(t, name+" and another one", row("U", row("->", d), row("->", row("List1", d))), allFuns)
		reads(t, name+" as car", row("U", row("Pair", d, sym("Int")), row("Pair", sym("Any"), sym("Str"))), pair(anything, flat(5)))
		reads(t, name+" as element", row("U", row("List1", d), row("List1", sym("Any"))), list1(anything))
		reads(t, name+" as elements", row("U", row("List1", d), row("Pair", sym("Any"), sym("Any"))), pair(anything, anything))
		fails(t, name+" beside Any", row("Pair", sym("Any"), row("U", d, sym("Int"))), api.ErrMany)
	}
	deep := spelt(nested(flat(1), 100, list1))
	other := spelt(nested(flat(2), 100, list1))
	reads(t, "a difference far below", row("U", row("->", deep), row("->", other)), allFuns)
	fails(t, "no difference", row("U", row("->", other), row("->", other)), api.ErrMany)
}

// P5.2: unions do not count as levels, however deep they are.
func TestReadDeepUnions(t *testing.T) {
	d := sym("Int")
	for range 1 << 15 {
		d = row("U", d)
	}
	reads(t, "a union of one", d, flat(1))
	reads(t, "in a list", row("List", d), list(flat(1)))
	d = row("->", sym("Int"))
	for range 1 << 14 {
		d = row("U", sym("Str"), d, row("U"))
	}
	reads(t, "a union of three", d, api.Type{Flat: 4, Fun: 1, Funs: []api.Type{flat(1)}})
	var l []api.Datum
	for i := range 1 << 16 {
		l = append(l, row("Pair", sym([]string{"Int", "Str", "Void"}[i%3]), row("List1", sym("Bool"))))
	}
	reads(t, "a union of many", row("U", l...), pair(flat(37), list1(flat(2))))
}

// plainType is the type that d denotes by the chapter's rule, one join after the other; false if d is none.
func plainType(d api.Datum) (api.Type, bool) {
	if d.Kind == api.Sym {
		x, ok := map[string]api.Type{"Int": flat(1), "Bool": flat(2), "Str": flat(4), "Sym": flat(8), "Null": flat(16), "Void": flat(32), "Any": anything, "Nothing": nothing, "Proc": allFuns}[d.Text]
		return x, ok
	}
	if d.Kind != api.List || len(d.List) == 0 || d.List[0].Kind != api.Sym {
		return nothing, false
	}
	var l []api.Type
	for _, x := range d.List[1:] {
		y, ok := plainType(x)
		if !ok {
			return nothing, false
		}
		l = append(l, y)
	}
	switch word := d.List[0].Text; {
	case word == "U":
		x := nothing
		for _, y := range l {
			x = plainJoin(x, y)
		}
		return x, true
	case word == "Pair" && len(l) == 2:
		return pair(l[0], l[1]), true
	case word == "List" && len(l) == 1:
		return list(l[0]), true
	case word == "List1" && len(l) == 1:
		return list1(l[0]), true
	case word == "->" && len(l) > 0:
		return fun(l...), true
	}
	return nothing, false
}

// plainRead is Read by the chapter's rule.
func plainRead(d api.Datum) (api.Type, api.Errno) {
	x, ok := plainType(d)
	switch {
	case !ok:
		return nothing, api.ErrForm
	case depth(x) > 20 || size(x) > 300 || !fewArguments(x):
		return nothing, api.ErrMany
	}
	return x, api.OK
}

// fewArguments reports whether no procedures in x have more than 8 arguments.
func fewArguments(x api.Type) bool {
	for _, l := range [][]api.Type{x.Pairs, x.Funs} {
		for _, y := range l {
			if !fewArguments(y) {
				return false
			}
		}
	}
	return len(x.Funs) <= 9
}

// mixedDatum is a datum of a type of up to so many levels; now and then it is wrong.
func (s *stream) mixedDatum(levels int) api.Datum {
	names := []string{"Int", "Int", "Int", "Bool", "Str", "Null", "Null", "Nothing", "Proc", "Void"}
	if levels <= 1 || s.next(9) == 0 {
		switch s.next(600) {
		case 0:
			return sym("Foo")
		case 1, 2, 3, 4, 5, 6, 7, 8, 9, 10:
			return sym("Any")
		}
		return sym(names[s.next(len(names))])
	}
	words := []string{"U", "U", "U", "U", "Pair", "Pair", "List", "List1", "->"}
	word := words[s.next(len(words))]
	n := map[string]int{"U": s.next(5), "Pair": 2, "List": 1, "List1": 1, "->": s.next(3) + 1}[word]
	if word == "->" && s.next(12) == 0 {
		n = 10
	}
	d := row(word)
	for range n {
		d.List = append(d.List, s.mixedDatum(levels-1))
	}
	return d
}

// P5.2: data without a pattern denote what the rule says.
func TestReadMixed(t *testing.T) {
	s := stream(7)
	codes := map[api.Errno]int{}
	for i := range 20000 {
		d := s.mixedDatum(i%10 + 1)
		want, wantCode := plainRead(d)
		got, code := types.Read(d)
		codes[code]++
		if code != wantCode || !equal(got, want) {
			shown, _ := datum.Print(d)
			t.Fatalf("%s: %s, %d, not %s, %d", shown, text(got), code, text(want), wantCode)
		}
		if code == api.OK {
			again, _ := types.Datum(got)
			reads(t, "read again", again, got)
		}
	}
	if codes[api.OK] < 1000 || codes[api.ErrForm] < 100 || codes[api.ErrMany] < 100 {
		t.Error("the data of the test are too much of one kind", codes)
	}
}

// power is a union of lists of lists .. of rows of pairs, whose type has at least n to the power of levels components. The elements of a row at each level are given by leaf.
func power(n, levels int, leaf func(level, i int) api.Datum) api.Datum {
	d := row("U")
	for level := range levels {
		chain := sym("Nothing")
		for i := range n {
			chain = row("Pair", leaf(level, i), chain)
		}
		for range level {
			chain = row("List1", chain)
		}
		d.List = append(d.List, chain)
	}
	return d
}

// P0: a union whose type is far too great to be made is answered as soon as any other one.
func TestReadPower(t *testing.T) {
	same := power(4, 30, func(level, i int) api.Datum { return sym("Nothing") })
	each := power(2, 30, func(level, i int) api.Datum {
		d := sym([]string{"Int", "Str"}[i])
		for range level {
			d = row("Pair", sym("Nothing"), d)
		}
		for range 29 - level {
			d = row("List1", d)
		}
		return d
	})
	anyRow := func(n int) api.Type { // a row of n pairs, and a list behind it
		x := list(anything)
		for range n - 1 {
			x = api.Type{Flat: api.TagNull, Pair: 1, Pairs: []api.Type{anything, x}}
		}
		return pair(anything, x)
	}
	for name, d := range map[string]api.Datum{"the same leaves": same, "leaves of their own": each} {
		fails(t, name, d, api.ErrMany)
		fails(t, name+" in a list", row("List", row("U", sym("Int"), d)), api.ErrMany)
		fails(t, name+" beside an error", row("Pair", d, sym("Foo")), api.ErrForm)
		reads(t, name+" in Any", row("U", d, sym("Any")), anything)
		reads(t, name+" in Proc", row("U", row("->", d), sym("Int"), sym("Proc")), api.Type{Flat: 1, Fun: 2})
	}
	reads(t, "the same leaves in a list of Any", row("U", same, row("List1", sym("Any"))), anyRow(4))
	reads(t, "leaves of their own in a list of Any", row("U", each, row("List1", sym("Any"))), anyRow(2))
	reads(t, "procedures of two of them", row("U", row("->", same), row("->", each)), allFuns)
	reads(t, "procedures with one argument and different results", row("U", row("->", same, sym("Int")), row("->", same, sym("Str"))), allFuns)
	fails(t, "one procedure twice", row("U", row("->", each), row("->", each)), api.ErrMany)
	small := power(2, 3, func(level, i int) api.Datum { return sym("Int") })
	want, _ := plainType(small)
	reads(t, "a small one", small, want)
}

// P0: a list that contains itself is not the datum of a type.
func TestReadListInItself(t *testing.T) {
	for _, word := range []string{"U", "List", "List1", "Pair", "->"} {
		l := []api.Datum{sym(word), {Kind: api.List}}
		if word == "Pair" {
			l = append(l, api.Datum{Kind: api.List})
		}
		for i := range l[1:] {
			l[i+1].List = l
		}
		fails(t, word, l[1], api.ErrForm)
		fails(t, word+" beside Any", row("U", sym("Any"), l[1]), api.ErrForm)
	}
}

// P5.3: a type that is not valid has no datum, wherever it is wrong.
func TestDatumOfWrong(t *testing.T) {
	for i, x := range wrong() {
		for _, y := range []api.Type{x, pair(x, flat(1)), pair(flat(1), x), list1(x), list(x), fun(x), fun(x, flat(1)), fun(flat(1), x)} {
			if d, code := types.Datum(y); code != api.ErrArg || d.Kind != 0 || d.Text != "" || len(d.List) != 0 {
				t.Errorf("%d: %v, %d", i, d, code)
			}
		}
	}
}

// P5.3: the components of a type stand in their order; Null goes with lists, and only with lists.
func TestDatumOrder(t *testing.T) {
	names := []string{"Int", "Bool", "Str", "Sym", "Null", "Void"}
	for tags := range 64 {
		for _, pairs := range []string{"", "(Pair Int Str)", "(List1 Int)"} {
			for _, funs := range []string{"", "(-> Int Str)", "Proc"} {
				x := flat(tags)
				var l []string
				for i, name := range names {
					if tags&(1<<i) != 0 && !(name == "Null" && pairs == "(List1 Int)") {
						l = append(l, name)
					}
				}
				switch pairs {
				case "(Pair Int Str)":
					x.Pair, x.Pairs = 1, []api.Type{flat(1), flat(4)}
					l = append(l, pairs)
				case "(List1 Int)":
					x.Pair, x.Pairs = 2, []api.Type{flat(1)}
					if tags&api.TagNull != 0 {
						pairs = "(List Int)"
					}
					l = append(l, pairs)
				}
				switch funs {
				case "(-> Int Str)":
					x.Fun, x.Funs = 1, []api.Type{flat(1), flat(4)}
					l = append(l, funs)
				case "Proc":
					x.Fun = 2
					l = append(l, funs)
				}
				want := "(U " + strings.Join(l, " ") + ")"
				switch len(l) {
				case 0:
					want = "Nothing"
				case 1:
					want = l[0]
				}
				if got := text(x); got != want {
					t.Errorf("%+v: %s, not %s", x, got, want)
				}
				reads(t, want, dat(t, want), x)
			}
		}
	}
}

// P5.6: reading the datum of a type returns the type; the datum is valid.
func TestReadOfDatum(t *testing.T) {
	l := append(valid(), small([]api.Type{nothing, flat(17), anything, allFuns, list(flat(1)), pair(flat(1), flat(16)), fun(flat(1), flat(2))})...)
	s := stream(11)
	for i := range 3000 {
		l = append(l, s.mixed(i%9+1))
	}
	for _, x := range l {
		d, code := types.Datum(x)
		if code != api.OK || !datum.Right(d) {
			t.Fatalf("%+v: %v, %d", x, d, code)
		}
		reads(t, "the datum of a type", d, x)
		if y, _ := types.Read(d); !types.Same(x, y) || !types.Right(y) {
			t.Errorf("%+v: %+v", x, y)
		}
	}
}

// R3: Read and Datum share no memory with what is handed in to them, nor between their answers.
func TestTextSharesNothing(t *testing.T) {
	const s = "(U Null (Pair (-> Int (List Str) Any) (List1 (U Int Str))) (-> Int Str))"
	d := dat(t, s)
	first, _ := types.Read(d)
	second, _ := types.Read(d)
	var spoil func(l []api.Type)
	spoil = func(l []api.Type) {
		for i := range l {
			spoil(l[i].Pairs)
			spoil(l[i].Funs)
			l[i] = anything
		}
		_ = append(l, anything)
	}
	spoil(first.Pairs)
	spoil(first.Funs)
	if text(second) != s || !datum.Same(d, dat(t, s)) {
		t.Error("two answers of Read share memory", text(second))
	}
	one, _ := types.Datum(second)
	for i := range one.List {
		one.List[i] = sym("Int")
	}
	if text(second) != s {
		t.Error("two answers of Datum share memory", text(second))
	}
}
