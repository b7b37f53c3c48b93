package types

import (
	"bezel/api"
	"bezel/datum"
)

// This file reads types from data, and prints them as data.

// flatNames are the names of the flat tags, in the order of their bits.
var flatNames = [...]string{"Int", "Bool", "Str", "Sym", "Null", "Void"}

// union is a Pair that no type has outside Read. There it marks types that are still to be joined: they are in Pairs. A union of lists and pairs may have exponentially more component types than its datum has data, so Read joins only those that it answers.
const union = -1

// Read is the type of d.
func Read(d api.Datum) (api.Type, api.Errno) {
	t, ok := parse(d, 0)
	if !ok {
		return api.Type{}, api.ErrForm
	}
	t = joined(t)
	if !Right(t) {
		return api.Type{}, api.ErrMany
	}
	return t, api.OK
}

// Datum is the datum of t; ErrArg if t is not valid.
func Datum(t api.Type) (api.Datum, api.Errno) {
	if !Right(t) {
		return api.Datum{}, api.ErrArg
	}
	return spell(t), api.OK
}

// parse is the type of d, which stands within so many lists, with its unions not joined; false if d is not the datum of a type.
func parse(d api.Datum, around int) (api.Type, bool) {
	if d.Kind == api.Sym {
		return named(d.Text)
	}
	if d.Kind != api.List || len(d.List) == 0 || d.List[0].Kind != api.Sym || around > mostLevels {
		return api.Type{}, false
	}
	var parts []api.Type
	for _, x := range d.List[1:] {
		part, ok := parse(x, around+1)
		if !ok {
			return api.Type{}, false
		}
		parts = append(parts, part)
	}
	return formed(d.List[0].Text, parts...)
}

// named is the type that is a symbol; false if none is.
func named(name string) (api.Type, bool) {
	switch name {
	case "Any":
		return All(), true
	case "Nothing":
		return api.Type{}, true
	case "Proc":
		return api.Type{Fun: allFuns}, true
	}
	for i, n := range flatNames {
		if n == name {
			return Flat(1 << i), true
		}
	}
	return api.Type{}, false
}

// formed is the type that is a list of a word and these types; false if none is.
func formed(word string, parts ...api.Type) (api.Type, bool) {
	n := len(parts)
	switch {
	case word == "U":
		return api.Type{Pair: union, Pairs: parts}, true
	case word == "Pair" && n == 2:
		return Pair(parts[0], parts[1]), true
	case word == "List" && n == 1:
		return ListOf(parts[0]), true
	case word == "List1" && n == 1:
		return api.Type{Pair: listsOf, Pairs: parts}, true
	case word == "->" && n > 0:
		return Fun(parts[n-1], parts[:n-1]...), true
	}
	return api.Type{}, false
}

// joined is t with all its unions joined. It opens no more types than a valid one has in it: if there are more, then those that it leaves empty are still too many.
func joined(t api.Type) api.Type {
	count := 0
	var one func(t api.Type) api.Type
	all := func(l []api.Type) []api.Type {
		var answer []api.Type
		for _, t := range l {
			answer = append(answer, one(t))
		}
		return answer
	}
	one = func(t api.Type) api.Type {
		count++
		if count > mostTypes {
			return api.Type{}
		}
		t = opened(t)
		t.Pairs, t.Funs = all(t.Pairs), all(t.Funs)
		return t
	}
	return one(t)
}

// opened is t, or if t is a union, the type that comes of it, whose component types may be unions again.
func opened(t api.Type) api.Type {
	if t.Pair == union {
		return openedRow(t.Pairs)
	}
	return t
}

// openedRow is the type that comes of all types in l. It joins half with half, which comes to the same as one after the other, so that the unions of component types aren't nested as deeply as l is long.
func openedRow(l []api.Type) api.Type {
	switch n := len(l); n {
	case 0:
		return api.Type{}
	case 1:
		return opened(l[0])
	default:
		later := func(x, y api.Type) api.Type { return api.Type{Pair: union, Pairs: []api.Type{x, y}} }
		return joinBy(openedRow(l[:n/2]), openedRow(l[n/2:]), later, sameJoined)
	}
}

// sameJoined reports whether a and b are the same when all unions in them are joined. What is written alike is the same, and need not be opened, which can take long.
func sameJoined(a, b api.Type) bool { return Same(a, b) || sameOpened(a, b) }

// sameOpened is sameJoined by opening the unions, level by level.
func sameOpened(a, b api.Type) bool { return sameBy(opened(a), opened(b), sameOpened) }

// spell is the datum of the valid type t.
func spell(t api.Type) api.Datum {
	if t.All {
		return datum.Word("Any")
	}
	switch l := spellParts(t); len(l) {
	case 0:
		return datum.Word("Nothing")
	case 1:
		return l[0]
	default:
		return datum.Row(append([]api.Datum{datum.Word("U")}, l...)...)
	}
}

// spellParts is the data of what t is a union of.
func spellParts(t api.Type) []api.Datum {
	pairs, flat := "Pair", t.Flat
	switch {
	case t.Pair == listsOf && flat&api.TagNull != 0:
		pairs, flat = "List", flat&^api.TagNull
	case t.Pair == listsOf:
		pairs = "List1"
	}
	var l []api.Datum
	for i, name := range flatNames {
		if flat&(1<<i) != 0 {
			l = append(l, datum.Word(name))
		}
	}
	if t.Pair != 0 {
		l = append(l, spellForm(pairs, t.Pairs...))
	}
	switch t.Fun {
	case funsOf:
		l = append(l, spellForm("->", t.Funs...))
	case allFuns:
		l = append(l, datum.Word("Proc"))
	}
	return l
}

// spellForm is the list of a word and the data of these types.
func spellForm(word string, parts ...api.Type) api.Datum {
	l := []api.Datum{datum.Word(word)}
	for _, t := range parts {
		l = append(l, spell(t))
	}
	return datum.Row(l...)
}
