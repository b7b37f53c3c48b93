package lex_test

import (
	"regexp"
	"slices"
	"strings"
	"testing"

	"bezel/api"
	"bezel/lex"
)

// tok is a token with its kind, its text and its offset, written short.
func tok(kind int, text string, at int) lex.Token {
	return lex.Token{Kind: kind, Text: text, At: at}
}

// reads fails unless Lex answers just these tokens.
func reads(t *testing.T, s string, want ...lex.Token) {
	t.Helper()
	got, at, code := lex.Lex(s)
	if code != api.OK || at != 0 || !slices.Equal(got, want) {
		t.Errorf("%q: %v, %d, %d, not %v", s, got, at, code, want)
	}
}

// fails fails unless Lex answers just that error at that offset.
func fails(t *testing.T, s string, at int, code api.Errno) {
	t.Helper()
	l, gotAt, gotCode := lex.Lex(s)
	if len(l) != 0 || gotAt != at || gotCode != code {
		t.Errorf("%q: %v, %d, %d, not error %d at %d", s, l, gotAt, gotCode, code, at)
	}
}

// P2.1: the kinds of tokens, their texts and their offsets.
func TestKinds(t *testing.T) {
	reads(t, `(f -1 "a")`, tok(lex.Open, "(", 0), tok(lex.Sym, "f", 1), tok(lex.Num, "-1", 3), tok(lex.Str, "a", 6), tok(lex.Close, ")", 9))
	reads(t, "'x", tok(lex.Quote, "'", 0), tok(lex.Sym, "x", 1))
	reads(t, "#t #f", tok(lex.Bool, "#t", 0), tok(lex.Bool, "#f", 3))
	reads(t, "()'", tok(lex.Open, "(", 0), tok(lex.Close, ")", 1), tok(lex.Quote, "'", 2))
	reads(t, `a(1)#t"s"'b`, tok(lex.Sym, "a", 0), tok(lex.Open, "(", 1), tok(lex.Num, "1", 2), tok(lex.Close, ")", 3), tok(lex.Bool, "#t", 4), tok(lex.Str, "s", 6), tok(lex.Quote, "'", 9), tok(lex.Sym, "b", 10))
	reads(t, `a#t`, tok(lex.Sym, "a", 0), tok(lex.Bool, "#t", 1))
	reads(t, `1"1"1`, tok(lex.Num, "1", 0), tok(lex.Str, "1", 1), tok(lex.Num, "1", 4))
	reads(t, `"a""b"`, tok(lex.Str, "a", 0), tok(lex.Str, "b", 3))
}

// P2.1: what the kinds of tokens are called by number.
func TestKindNumbers(t *testing.T) {
	if got := []int{lex.Open, lex.Close, lex.Quote, lex.Sym, lex.Num, lex.Str, lex.Bool}; !slices.Equal(got, []int{1, 2, 3, 4, 5, 6, 7}) {
		t.Error(got)
	}
}

// P2.1: blanks and comments are skipped, a comment up to its byte 10 or to the end.
func TestSkipped(t *testing.T) {
	for _, s := range []string{"", " ", "\t", "\n", "\r", " \t\r\n ", ";", ";\n", "; a ( \" #", ";\n;\n;", "; \xff\x00\n", " ; a\r(\n \t;b", ";;", ";a\n\n"} {
		reads(t, s)
	}
	reads(t, " \t\r\na\n", tok(lex.Sym, "a", 4))
	reads(t, "a;b\nc", tok(lex.Sym, "a", 0), tok(lex.Sym, "c", 4))
	reads(t, "a;b\rc", tok(lex.Sym, "a", 0))
	reads(t, ";\n1", tok(lex.Num, "1", 2))
	reads(t, ";;a\n;b\n 1;", tok(lex.Num, "1", 8))
	reads(t, "#t;x", tok(lex.Bool, "#t", 0))
	reads(t, "(;)\n)", tok(lex.Open, "(", 0), tok(lex.Close, ")", 4))
	reads(t, `";"`, tok(lex.Str, ";", 0))
	fails(t, ";\n\v", 2, api.ErrForm)
}

// P2.1: a word is a number if it is digits, or a minus sign and digits; any other word is a symbol.
func TestWords(t *testing.T) {
	for _, s := range []string{"0", "7", "007", "-0", "-1", "-007", "1234567890", strings.Repeat("9", 1000), "-" + strings.Repeat("1", 1000)} {
		reads(t, s, tok(lex.Num, s, 0))
	}
	for _, s := range []string{"-", "--", "--1", "-1-", "1-", "1-1", "-1-1", "+", "+1", "1+", "1a", "a1", "-a", "-1a", "1.", ".1", "1.0", "1/2", "1e3", ".", "...", "->", "int?", "set!", "<=", "a:b", "_", "1_000", "=", strings.Repeat("a1", 1000)} {
		reads(t, s, tok(lex.Sym, s, 0))
	}
	reads(t, "- 1", tok(lex.Sym, "-", 0), tok(lex.Num, "1", 2))
	reads(t, "-\n1", tok(lex.Sym, "-", 0), tok(lex.Num, "1", 2))
	reads(t, "-(1", tok(lex.Sym, "-", 0), tok(lex.Open, "(", 1), tok(lex.Num, "1", 2))
}

// wordBytes are the bytes of words, as the chapter lists them.
const wordBytes = "abcdefghijklmnopqrstuvwxyzABCDEFGHIJKLMNOPQRSTUVWXYZ0123456789!?*+-/<=>:_."

// P2.1, P2.2: each byte alone, and in the middle of a word.
func TestEachByte(t *testing.T) {
	for b := range 256 {
		s := string([]byte{byte(b)})
		between := "x" + s + "1"
		switch {
		case strings.Contains("0123456789", s):
			reads(t, s, tok(lex.Num, s, 0))
			reads(t, between, tok(lex.Sym, between, 0))
		case strings.Contains(wordBytes, s):
			reads(t, s, tok(lex.Sym, s, 0))
			reads(t, between, tok(lex.Sym, between, 0))
		case strings.Contains(" \t\n\r", s):
			reads(t, s)
			reads(t, between, tok(lex.Sym, "x", 0), tok(lex.Num, "1", 2))
		case strings.Contains("()'", s):
			kind := strings.Index(" ()'", s)
			reads(t, s, tok(kind, s, 0))
			reads(t, between, tok(lex.Sym, "x", 0), tok(kind, s, 1), tok(lex.Num, "1", 2))
		case s == ";":
			reads(t, s)
			reads(t, between, tok(lex.Sym, "x", 0))
		case s == `"`:
			fails(t, s, 0, api.ErrShort)
			fails(t, between, 1, api.ErrShort)
		default:
			fails(t, s, 0, api.ErrForm)
			fails(t, between, 1, api.ErrForm)
		}
	}
}

// P2.1, P2.2: each byte behind #, and behind #t and #f.
func TestHash(t *testing.T) {
	fails(t, "#", 0, api.ErrForm)
	fails(t, "##t", 0, api.ErrForm)
	fails(t, "a #", 2, api.ErrForm)
	fails(t, "#t#", 2, api.ErrForm)
	fails(t, "#t#tt", 2, api.ErrForm)
	fails(t, "#true", 0, api.ErrForm)
	fails(t, "# t", 0, api.ErrForm)
	reads(t, "#t#f", tok(lex.Bool, "#t", 0), tok(lex.Bool, "#f", 2))
	for b := range 256 {
		s := string([]byte{byte(b)})
		if s == "t" || s == "f" {
			reads(t, "#"+s, tok(lex.Bool, "#"+s, 0))
		} else {
			fails(t, "#"+s, 0, api.ErrForm)
		}
		for _, h := range []string{"#t", "#f"} {
			if strings.Contains(wordBytes, s) {
				fails(t, h+s, 0, api.ErrForm)
				continue
			}
			l, _, code := lex.Lex(h + s + "\n")
			if code == api.OK && (len(l) == 0 || l[0] != tok(lex.Bool, h, 0)) {
				t.Errorf("%q: %v", h+s, l)
			}
			if _, at, _ := lex.Lex(h + s); code != api.OK && at != 2 {
				t.Errorf("%q: error %d at %d", h+s, code, at)
			}
		}
	}
}

// P2.1: the value of a string literal.
func TestLiterals(t *testing.T) {
	for _, x := range []struct{ s, value string }{
		{`""`, ""},
		{`"a b"`, "a b"},
		{`" !#[]~'();"`, " !#[]~'();"},
		{`"\""`, `"`},
		{`"\\"`, `\`},
		{`"\n"`, "\n"},
		{`"\\n"`, `\n`},
		{`"\\\n"`, "\\\n"},
		{`"\\\""`, `\"`},
		{`"\n\n\"\\nn"`, "\n\n\"\\nn"},
		{`"#t 12 x"`, "#t 12 x"},
	} {
		reads(t, x.s, tok(lex.Str, x.value, 0))
		reads(t, " "+x.s+"1", tok(lex.Str, x.value, 1), tok(lex.Num, "1", len(x.s)+1))
	}
}

// P2.1, P2.2: each byte in a string literal, and each byte behind a byte 92.
func TestLiteralBytes(t *testing.T) {
	for b := range 256 {
		s := string([]byte{byte(b)})
		switch plain := `"a` + s + `b"`; {
		case s == `"`:
			fails(t, plain, 4, api.ErrShort)
		case s == `\`:
			fails(t, plain, 2, api.ErrForm)
		case b >= 32 && b <= 126:
			reads(t, plain, tok(lex.Str, "a"+s+"b", 0))
		default:
			fails(t, plain, 2, api.ErrForm)
		}
		switch escaped := `"a\` + s + `b"`; s {
		case `"`, `\`:
			reads(t, escaped, tok(lex.Str, "a"+s+"b", 0))
		case "n":
			reads(t, escaped, tok(lex.Str, "a\nb", 0))
		default:
			fails(t, escaped, 2, api.ErrForm)
		}
	}
}

// P2.2: a literal that is not closed is an error of its first byte, unless something in it is not permitted.
func TestNotClosed(t *testing.T) {
	notClosed := []string{`"`, `"a`, `"a b(;`, `"\"`, `"\\`, `"\n`, `"a\"`, `"a\\\"`, `"'#`}
	inEscape := []string{`"\`, `"a\`, `"\\\`}
	for _, s := range slices.Concat(notClosed, inEscape) {
		fails(t, s, 0, api.ErrShort)
		fails(t, "x "+s, 2, api.ErrShort)
		fails(t, `"ok"`+s, 4, api.ErrShort)
	}
	for _, s := range notClosed {
		fails(t, s+"\n", len(s), api.ErrForm)
	}
	for _, s := range inEscape {
		fails(t, s+"\n", len(s)-1, api.ErrForm)
	}
	fails(t, "\"a\nb", 2, api.ErrForm)
	fails(t, "\"a\tb\\x", 2, api.ErrForm)
	fails(t, "\"\\q\x00", 1, api.ErrForm)
	fails(t, "\"a\x7f", 2, api.ErrForm)
	fails(t, `"\\\q`, 3, api.ErrForm)
}

// P2.2: the first error counts, and there are no tokens beside it.
func TestFirstError(t *testing.T) {
	fails(t, "[", 0, api.ErrForm)
	fails(t, "(a [ \"", 3, api.ErrForm)
	fails(t, "a\\", 1, api.ErrForm)
	fails(t, "#x \"", 0, api.ErrForm)
	fails(t, "\"\n\" [", 1, api.ErrForm)
	fails(t, "\"\\a\n", 1, api.ErrForm)
	fails(t, "a b \xc3\xa9", 4, api.ErrForm)
	fails(t, "; [ \" #\n  #1", 10, api.ErrForm)
	fails(t, "a \" ; [", 2, api.ErrShort)
	fails(t, "a, b", 1, api.ErrForm)
	fails(t, "`a", 0, api.ErrForm)
}

// P2.3: the tokens' bytes, with a space between two.
func TestText(t *testing.T) {
	for _, x := range []struct {
		l []lex.Token
		s string
	}{
		{nil, ""},
		{[]lex.Token{}, ""},
		{[]lex.Token{tok(lex.Open, "(", 0), tok(lex.Sym, "f", 0), tok(lex.Num, "-1", 0), tok(lex.Str, "a", 0), tok(lex.Close, ")", 0)}, `( f -1 "a" )`},
		{[]lex.Token{tok(lex.Str, "", 0)}, `""`},
		{[]lex.Token{tok(lex.Str, "a\n\"\\n b;", 0)}, `"a\n\"\\n b;"`},
		{[]lex.Token{tok(lex.Quote, "'", 5), tok(lex.Bool, "#f", -7), tok(lex.Bool, "#t", 1<<40)}, "' #f #t"},
		{[]lex.Token{tok(lex.Num, "007", 0), tok(lex.Sym, "-", 0), tok(lex.Num, "-0", 0)}, "007 - -0"},
	} {
		if s, code := lex.Text(x.l); s != x.s || code != api.OK {
			t.Errorf("%v: %q, %d, not %q", x.l, s, code, x.s)
		}
	}
}

// badTokens are tokens that are not valid.
func badTokens() []lex.Token {
	bad := []lex.Token{{}}
	for _, kind := range []int{-1, 0, 8, 1 << 40} {
		for _, text := range []string{"", "(", "a", "1", "#t"} {
			bad = append(bad, tok(kind, text, 0))
		}
	}
	wrong := []struct {
		kind  int
		texts []string
	}{
		{lex.Open, []string{"", ")", "((", "( ", " (", "(;", "a"}},
		{lex.Close, []string{"", "(", "))", "'", " )", "1"}},
		{lex.Quote, []string{"", "''", "' ", "\"", "'a"}},
		{lex.Sym, []string{"", "1", "-1", "a b", " a", "a ", "a;", ";a\na", "a\n", "(", "'a", "#t", `"a"`, `"`, "a\x00", "\xc3\xa9", "[", "a#t"}},
		{lex.Num, []string{"", "-", "+1", "a", "1 ", " 1", "1.0", "1 2", "1;", "--1", "#f", `"1"`}},
		{lex.Bool, []string{"", "#", "#x", "#tt", "#t ", "t", "true", "#t#t", "#t;", "#T"}},
		{lex.Str, []string{"\t", "a\r", "\x00", "\x1f", "\x7f", "\x80", "\xff", "\xc3\xa9"}},
	}
	for _, x := range wrong {
		for _, text := range x.texts {
			bad = append(bad, tok(x.kind, text, 0))
		}
	}
	return bad
}

// P2.3: a token that is not valid is an error wherever it stands, and there is no text beside it.
func TestTextOfBadTokens(t *testing.T) {
	good := tok(lex.Sym, "a", 0)
	for _, x := range badTokens() {
		for _, l := range [][]lex.Token{{x}, {good, x}, {x, good}, {good, x, good}, {x, x}} {
			if s, code := lex.Text(l); s != "" || code != api.ErrArg {
				t.Errorf("%v: %q, %d", l, s, code)
			}
		}
	}
}

// P2.3: each byte as the text of a string token.
func TestTextOfLiteralBytes(t *testing.T) {
	for b := range 256 {
		value := string([]byte{byte(b)})
		want, wantCode := `"`+value+`"`, api.OK
		switch {
		case value == `"`, value == `\`:
			want = `"\` + value + `"`
		case value == "\n":
			want = `"\n"`
		case b < 32, b > 126:
			want, wantCode = "", api.ErrArg
		}
		if s, code := lex.Text([]lex.Token{tok(lex.Str, value, 0)}); s != want || code != wantCode {
			t.Errorf("%q: %q, %d", value, s, code)
		}
	}
}

// R3: neither call changes or keeps what it is given, and the tokens belong to the caller.
func TestNothingShared(t *testing.T) {
	l := []lex.Token{tok(lex.Sym, "a", 9), tok(lex.Str, "b\n", 8)}
	if s, _ := lex.Text(l); s != `a "b\n"` || l[0] != tok(lex.Sym, "a", 9) || l[1] != tok(lex.Str, "b\n", 8) {
		t.Errorf("%q of %v", s, l)
	}
	first, _, _ := lex.Lex("a b")
	first[0], first[1] = tok(0, "", 0), tok(0, "", 0)
	reads(t, "a b", tok(lex.Sym, "a", 0), tok(lex.Sym, "b", 2))
}

// same reports whether two lists of tokens agree in kinds and texts.
func same(a, b []lex.Token) bool {
	return slices.EqualFunc(a, b, func(x, y lex.Token) bool { return x.Kind == y.Kind && x.Text == y.Text })
}

// P2.4: tokens that are printed are lexed again as they were, whichever two or three stand next to each other.
func TestPrintedAndLexed(t *testing.T) {
	some := []lex.Token{
		tok(lex.Open, "(", 0), tok(lex.Close, ")", 0), tok(lex.Quote, "'", 0),
		tok(lex.Sym, "-", 0), tok(lex.Sym, "a.b", 0), tok(lex.Sym, "-1x", 0),
		tok(lex.Num, "1", 0), tok(lex.Num, "-007", 0), tok(lex.Bool, "#t", 0), tok(lex.Bool, "#f", 0),
		tok(lex.Str, "", 0), tok(lex.Str, " ;\n\"\\n\\", 0),
	}
	for _, a := range some {
		for _, b := range some {
			for _, c := range some {
				for _, l := range [][]lex.Token{{a}, {a, b}, {a, b, c}} {
					s, code := lex.Text(l)
					back, _, again := lex.Lex(s)
					if code != api.OK || again != api.OK || !same(l, back) {
						t.Errorf("%v is printed as %q and lexed as %v", l, s, back)
					}
				}
			}
		}
	}
}

// plainLexer reads a text by patterns, apart from how the program does it.
type plainLexer struct{ skip, word, number, truth, inside *regexp.Regexp }

func newPlainLexer() plainLexer {
	return plainLexer{
		skip:   regexp.MustCompile(`\A(?:[ \t\n\r]|;[^\n]*(?:\n|\z))+`),
		word:   regexp.MustCompile(`\A[a-zA-Z0-9!?*+\-/<=>:_.]+`),
		number: regexp.MustCompile(`\A-?[0-9]+\z`),
		truth:  regexp.MustCompile(`\A#[tf](?:[^a-zA-Z0-9!?*+\-/<=>:_.]|\z)`),
		inside: regexp.MustCompile(`\A"(?:[ !#-\[\]-~]|\\["\\n])*`),
	}
}

// next is the token at the start of s, and how many bytes it has; or an error, and how many bytes behind the start it is.
func (p plainLexer) next(s string) (kind int, text string, n int, code api.Errno) {
	if w := p.word.FindString(s); w != "" {
		if p.number.MatchString(w) {
			return lex.Num, w, len(w), api.OK
		}
		return lex.Sym, w, len(w), api.OK
	}
	if k := strings.IndexByte("()'", s[0]); k >= 0 {
		return k + 1, s[:1], 1, api.OK
	}
	if p.truth.MatchString(s) {
		return lex.Bool, s[:2], 2, api.OK
	}
	if s[0] != '"' {
		return 0, "", 0, api.ErrForm
	}
	open := p.inside.FindString(s)
	switch rest := s[len(open):]; {
	case strings.HasPrefix(rest, `"`):
		value := strings.NewReplacer(`\"`, `"`, `\\`, `\`, `\n`, "\n").Replace(open[1:])
		return lex.Str, value, len(open) + 1, api.OK
	case rest == "", rest == `\`:
		return 0, "", 0, api.ErrShort
	}
	return 0, "", len(open), api.ErrForm
}

func (p plainLexer) lex(s string) ([]lex.Token, int, api.Errno) {
	var l []lex.Token
	at := 0
	for {
		at += len(p.skip.FindString(s[at:]))
		if at == len(s) {
			return l, 0, api.OK
		}
		kind, text, n, code := p.next(s[at:])
		if code != api.OK {
			return nil, at + n, code
		}
		l = append(l, tok(kind, text, at))
		at += n
	}
}

// everyText calls f with every text of at most most bytes of the alphabet.
func everyText(alphabet string, most int, f func(string)) {
	f("")
	texts := []string{""}
	for range most {
		var longer []string
		for _, s := range texts {
			for i := range len(alphabet) {
				longer = append(longer, s+alphabet[i:i+1])
			}
		}
		for _, s := range longer {
			f(s)
		}
		texts = longer
	}
}

// P2.1, P2.2, P2.4: every short text is lexed as the patterns say; if it is lexed, it may be printed and lexed again.
func TestEveryShortText(t *testing.T) {
	plain := newPlainLexer()
	check := func(s string) {
		l, at, code := lex.Lex(s)
		wantL, wantAt, wantCode := plain.lex(s)
		if at != wantAt || code != wantCode || !slices.Equal(l, wantL) {
			t.Fatalf("%q: %v, %d, %d, not %v, %d, %d", s, l, at, code, wantL, wantAt, wantCode)
		}
		if code != api.OK {
			return
		}
		printed, code := lex.Text(l)
		back, _, again := lex.Lex(printed)
		if code != api.OK || again != api.OK || !same(l, back) {
			t.Fatalf("%q: %v is printed as %q (%d) and lexed as %v (%d)", s, l, printed, code, back, again)
		}
	}
	everyText("at1-# \n;\"\\n(\x80", 5, check)
	everyText("1\\\"n;\n", 6, check)
	everyText("#tf1-.", 5, check)
}

// P0: a long text of one kind of token, and a deep one, end.
func TestLong(t *testing.T) {
	const many = 1 << 16
	for _, x := range []struct {
		s string
		n int
	}{{"(", many}, {"a ", many}, {"'1", 2 * many}, {`"\n"`, many}, {"#t", many}, {";\n", 0}, {";", 0}, {"a", 1}, {"1", 1}, {" ", 0}} {
		l, at, code := lex.Lex(strings.Repeat(x.s, many))
		if len(l) != x.n || at != 0 || code != api.OK {
			t.Errorf("%q: %d tokens, %d, %d", x.s, len(l), at, code)
		}
		if s, code := lex.Text(l); code != api.OK || len(s) == 0 && x.n > 0 {
			t.Errorf("%q: %d bytes printed, %d", x.s, len(s), code)
		}
	}
}
