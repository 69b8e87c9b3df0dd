package lex

import (
	"math/big"
	"regexp"
	"slices"
	"strings"
	"testing"

	"jacquard/api"
)

// A second lexer, made of patterns, that the first is held against.
var (
	between = regexp.MustCompile(`^([ \t\n]|#[^\n]*(\n|\z))*`)
	word    = regexp.MustCompile(`^[a-z][a-z0-9]*`)
	number  = regexp.MustCompile(`^-?[0-9][a-z0-9]*`)
	written = regexp.MustCompile(`\A(0|-?[1-9][0-9]*)\z`)
)

// The chapter's signs; those of two bytes ahead, so that the longest is met first.
var allSigns = strings.Fields("<< >> == != { } ; : = + - * & | ^ <")

func wantedNumber(s string) bool {
	if !written.MatchString(s) {
		return false
	}
	n, ok := new(big.Int).SetString(s, 10)
	return ok && n.IsInt64()
}

func wantedKind(rest string) (kind int, text string) {
	if rest == "" {
		return api.TEnd, ""
	}
	if s := word.FindString(rest); s != "" {
		return api.TWord, s
	}
	if s := number.FindString(rest); s != "" {
		return api.TNum, s
	}
	for _, s := range allSigns {
		if strings.HasPrefix(rest, s) {
			return api.TSign, s
		}
	}
	return 0, ""
}

// wanted answers the tokens of s up to the end, or up to the first error.
func wanted(s string) ([]api.Token, api.Err) {
	var tokens []api.Token
	for at := 0; ; {
		at += len(between.FindString(s[at:]))
		kind, text := wantedKind(s[at:])
		if kind == 0 {
			return tokens, api.Err{Code: api.ErrSign, At: at}
		}
		if kind == api.TNum && !wantedNumber(text) {
			return tokens, api.Err{Code: api.ErrNum, At: at}
		}
		tokens = append(tokens, api.Token{Kind: kind, Text: text, At: at})
		if kind == api.TEnd {
			return tokens, api.Err{}
		}
		at += len(text)
	}
}

// hold goes through s with a Lexer and with All, and holds both against wanted.
func hold(t *testing.T, s string) {
	t.Helper()
	tokens, fault := wanted(s)
	l := New(s)
	for i, want := range tokens {
		if got, err := l.Next(); got != want || err != (api.Err{}) {
			t.Fatalf("%q: token %d is %v, %v, not %v", s, i, got, err, want)
		}
		if end := want.At + len(want.Text); l.Read() < end || l.Read() > min(end+1, len(s)) {
			t.Fatalf("%q: %d bytes read for the token %v", s, l.Read(), want)
		}
	}
	// Behind the last one: the end, or the error, for ever.
	again := tokens[max(len(tokens)-1, 0):]
	read := l.Read()
	for range 3 {
		got, err := l.Next()
		if fault.Code == api.OK && got != again[0] || fault.Code != api.OK && got != (api.Token{}) || err != fault {
			t.Fatalf("%q: %v, %v behind the last one", s, got, err)
		}
		if l.Read() != read {
			t.Fatalf("%q: %d bytes read behind the last one, not %d", s, l.Read(), read)
		}
	}
	holdAll(t, s, tokens, fault)
}

func holdAll(t *testing.T, s string, tokens []api.Token, fault api.Err) {
	t.Helper()
	if len(s) > api.MaxText {
		tokens, fault = nil, api.Err{Code: api.ErrLong, At: api.MaxText}
	} else if fault.Code != api.OK {
		tokens = nil
	}
	if got, err := All(s); !slices.Equal(got, tokens) || err != fault {
		t.Fatalf("All(%q) is %v, %v, not %v, %v", s, got, err, tokens, fault)
	}
}

// texts calls f with every text of at most so many of the pieces.
func texts(pieces []string, most int, f func(string)) {
	var grow func(s string, left int)
	grow = func(s string, left int) {
		f(s)
		for _, p := range pieces {
			if left > 0 {
				grow(s+p, left-1)
			}
		}
	}
	grow("", most)
}

func kindsOf(tokens []api.Token) (kinds []int) {
	for _, x := range tokens {
		kinds = append(kinds, x.Kind)
	}
	return kinds
}

func textsOf(tokens []api.Token) (l []string) {
	for _, x := range tokens {
		l = append(l, x.Text)
	}
	return l
}

func placesOf(tokens []api.Token) (places []int) {
	for _, x := range tokens {
		places = append(places, x.At)
	}
	return places
}

func Test2_1WrittenOut(t *testing.T) {
	// The patterns might err as the program does: some answers are written out.
	for _, x := range []struct {
		s      string
		kinds  []int
		texts  []string
		places []int
	}{
		{"", []int{4}, []string{""}, []int{0}},
		{"x<<-3", []int{1, 3, 2, 4}, []string{"x", "<<", "-3", ""}, []int{0, 1, 3, 5}},
		{"r1 = a - 1;", []int{1, 3, 1, 3, 2, 3, 4}, []string{"r1", "=", "a", "-", "1", ";", ""}, []int{0, 3, 5, 7, 9, 10, 11}},
		{"a# b\nc\t#d", []int{1, 1, 4}, []string{"a", "c", ""}, []int{0, 5, 9}},
		{"zebra0a9 0 -10", []int{1, 2, 2, 4}, []string{"zebra0a9", "0", "-10", ""}, []int{0, 9, 11, 14}},
		{"---1--", []int{3, 3, 2, 3, 3, 4}, []string{"-", "-", "-1", "-", "-", ""}, []int{0, 1, 2, 4, 5, 6}},
	} {
		tokens, err := All(x.s)
		if err != (api.Err{}) || !slices.Equal(kindsOf(tokens), x.kinds) || !slices.Equal(textsOf(tokens), x.texts) || !slices.Equal(placesOf(tokens), x.places) {
			t.Errorf("%q: %v, %v", x.s, tokens, err)
		}
		hold(t, x.s)
	}
}

func Test2_1EveryByte(t *testing.T) {
	for c := range 256 {
		b := string([]byte{byte(c)})
		for _, s := range []string{b, "a" + b, "1" + b, "-" + b, b + "1", b + "a", b + b, "#" + b, "#" + b + "\na", "a " + b + " a", b + "="} {
			hold(t, s)
		}
	}
}

func Test2_1EverySignAlone(t *testing.T) {
	for _, s := range allSigns {
		want := []api.Token{{Kind: api.TSign, Text: s}, {Kind: api.TEnd, At: len(s)}}
		if got, err := All(s); !slices.Equal(got, want) || err != (api.Err{}) {
			t.Errorf("%q: %v, %v", s, got, err)
		}
	}
}

func Test2_1SignsSideBySide(t *testing.T) {
	for s, want := range map[string]string{
		"<<<": "<< <", "<<<<": "<< <<", "===": "== =", "====": "== ==", "=!=": "= !=", "!===": "!= ==", "<=": "< =", "<<=": "<< =",
		">>=": ">> =", ">>>>": ">> >>", "=<": "= <", "<>>": "< >>", "!==": "!= =", ";;": "; ;", "{}{": "{ } {", "-=": "- =", "=-": "= -",
	} {
		tokens, err := All(s)
		if got := strings.Join(textsOf(tokens), " "); got != want+" " || err != (api.Err{}) {
			t.Errorf("%q: %q, %v", s, got, err)
		}
	}
	texts(append(allSigns, ">", "!"), 3, func(s string) { hold(t, s) })
}

func Test2_1Comments(t *testing.T) {
	for _, s := range []string{"#", "##", "#\n", "#\n#", "a#", "a#b", "#a\nb", "# > ! A 01 é \x00\xff\r", "1#2\n3", "-#\n1", "<#\n<", "a\n\n#\n\n#\n b # c"} {
		hold(t, s)
		if _, err := All(s); err != (api.Err{}) {
			t.Errorf("%q: %v", s, err)
		}
	}
}

func Test2_1Numbers(t *testing.T) {
	for _, s := range []string{"0", "1", "9", "10", "-1", "-9", "9223372036854775807", "-9223372036854775808", "1000000000000000000"} {
		want := []api.Token{{Kind: api.TNum, Text: s}, {Kind: api.TEnd, At: len(s)}}
		if got, err := All(s); !slices.Equal(got, want) || err != (api.Err{}) {
			t.Errorf("%q: %v, %v", s, got, err)
		}
	}
	for _, s := range []string{"00", "01", "007", "-0", "-00", "-01", "1a", "0x1", "1e5", "0a", "-1a", "1a2", "9223372036854775808",
		"-9223372036854775809", "10000000000000000000", "18446744073709551616", strings.Repeat("9", 3990)} {
		for _, ahead := range []string{"", " ", "x ", "#\n", "- ", "=", "x = 1 ;\n"} {
			want := api.Err{Code: api.ErrNum, At: len(ahead)}
			if got, err := All(ahead + s + " >"); got != nil || err != want {
				t.Errorf("%q: %v, %v", ahead+s, got, err)
			}
			hold(t, ahead+s)
		}
	}
}

func Test2_1NoTokenBegins(t *testing.T) {
	for _, s := range []string{">", "!", "> >", "! =", ">=", "><", "!!", "A", "Z", "_", "é", "\x80", "\xff", "\x00", "\r", "\v", "\f", "\u00a0", "\u2028", "٣",
		"/", "(", ")", "[", "]", ",", ".", "%", "~", "?", "@", "$", "\"", "'", "`", "\\", "\x7f", "\ufeff"} {
		for _, ahead := range []string{"", " ", "ab ", "ab", "1", "#\n", "{", "\t\n"} {
			want := api.Err{Code: api.ErrSign, At: len(ahead)}
			if got, err := All(ahead + s + " 01"); got != nil || err != want {
				t.Errorf("%q: %v, %v", ahead+s, got, err)
			}
			hold(t, ahead+s)
		}
	}
}

func Test2_1NextBehindTheEnd(t *testing.T) {
	for _, s := range []string{"", " ", "x", "x ", "x #", "# c\n"} {
		l := New(s)
		for range len(s) {
			l.Next()
		}
		for range 4 {
			if got, err := l.Next(); got != (api.Token{Kind: api.TEnd, At: len(s)}) || err != (api.Err{}) || l.Read() != len(s) {
				t.Errorf("%q: %v, %v, %d", s, got, err, l.Read())
			}
		}
	}
}

func Test2_1NextBehindAnError(t *testing.T) {
	for s, want := range map[string]api.Err{
		"ab  > c": {Code: api.ErrSign, At: 4}, "ab 01 c": {Code: api.ErrNum, At: 3}, "ab #\n\n! 01": {Code: api.ErrSign, At: 6},
	} {
		l := New(s)
		if got, err := l.Next(); got != (api.Token{Kind: api.TWord, Text: "ab"}) || err != (api.Err{}) {
			t.Errorf("%q: %v, %v", s, got, err)
		}
		for range 4 {
			// The bound is the last token's end, and one; an error changes nothing.
			if got, err := l.Next(); got != (api.Token{}) || err != want || l.Read() < 2 || l.Read() > 3 {
				t.Errorf("%q: %v, %v, %d", s, got, err, l.Read())
			}
		}
	}
}

func Test2_1ReadLooksNoFurtherThanOne(t *testing.T) {
	// What stands behind is long, and full of errors that nobody may have met.
	for _, s := range []string{"a", "abc", "r0", "0", "17", "-3", "-", "<", "<<", ">>", "=", "==", "!=", "{", "}", ";", ":", "+", "*", "&", "|", "^"} {
		for _, behind := range []string{" ", "\n", "\t ", "#", " #", "\x00", "é", " > ! 01"} {
			l := New(" \n# one\n" + s + behind + strings.Repeat(" x ! ", 1000))
			if l.Read() != 0 {
				t.Errorf("%q: %d ahead of Next", s, l.Read())
			}
			end := 8 + len(s)
			if got, err := l.Next(); got.Text != s || err != (api.Err{}) || l.Read() < end || l.Read() > end+1 {
				t.Errorf("%q: %v, %v, %d", s, got, err, l.Read())
			}
		}
	}
}

func Test2_1LexersAreApart(t *testing.T) {
	a, b := New("x y"), New("x y")
	a.Next()
	a.Next()
	if b.Read() != 0 {
		t.Error(b.Read())
	}
	if got, _ := b.Next(); got.Text != "x" {
		t.Error(got)
	}
}

func Test2_2Lengths(t *testing.T) {
	full := strings.Repeat("ab <<-1 ", api.MaxText/8)
	if got, err := All(full); len(full) != 4000 || err != (api.Err{}) || len(got) != 1501 || got[1500] != (api.Token{Kind: api.TEnd, At: 4000}) {
		t.Error(len(full), len(got), err)
	}
	for _, s := range []string{full, strings.Repeat(" ", 4000), strings.Repeat("a", 4000), strings.Repeat("-", 4000), "#" + strings.Repeat("#", 3999)} {
		hold(t, s)
		if _, err := All(s); err != (api.Err{}) {
			t.Error(err)
		}
	}
	// The length is ahead of whatever stands in the text.
	for _, s := range []string{full + " ", full + ">", ">" + full, "01" + full, strings.Repeat("é", 2001), strings.Repeat("9", 4001), full + full} {
		if got, err := All(s); got != nil || err != (api.Err{Code: api.ErrLong, At: 4000}) {
			t.Error(len(got), err)
		}
	}
	// A Lexer has no such bound.
	hold(t, full+full+" 01")
}

func Test2_2FirstError(t *testing.T) {
	for s, want := range map[string]api.Err{
		"> 01": {Code: api.ErrSign, At: 0}, "01 >": {Code: api.ErrNum, At: 0}, "a 1a ! 2b": {Code: api.ErrNum, At: 2}, "a ! 1a >": {Code: api.ErrSign, At: 2},
		strings.Repeat(" ", 3999) + "!": {Code: api.ErrSign, At: 3999}, strings.Repeat(" ", 3998) + "00": {Code: api.ErrNum, At: 3998},
	} {
		if got, err := All(s); got != nil || err != want {
			t.Errorf("%q: %v, %v", s, got, err)
		}
	}
}

func Test2_2AnswersAreNewMemory(t *testing.T) {
	first, _ := All("a b c")
	for i := range first[:cap(first)] {
		first[:cap(first)][i] = api.Token{Kind: 99}
	}
	if second, _ := All("a b c"); !slices.Equal(textsOf(second), []string{"a", "b", "c", ""}) {
		t.Error(second)
	}
}

// standsSo says if each token is in s where it is told, in order, and nothing but
// blanks and comments between them.
func standsSo(s string, tokens []api.Token) bool {
	at := 0
	for _, x := range tokens {
		if x.At < at || x.At+len(x.Text) > len(s) || s[x.At:x.At+len(x.Text)] != x.Text {
			return false
		}
		if between.FindString(s[at:x.At]) != s[at:x.At] {
			return false
		}
		at = x.At + len(x.Text)
	}
	return at == len(s)
}

func Test2_3TokensStandInTheText(t *testing.T) {
	taken := 0
	texts([]string{"a", "r0", "7", "-", "0", "<", "=", "!", ">", " ", "\n", "#", "{", "é"}, 5, func(s string) {
		tokens, err := All(s)
		if err.Code != api.OK {
			return
		}
		taken++
		if !standsSo(s, tokens) {
			t.Fatalf("%q: %v", s, tokens)
		}
	})
	if taken < 100000 {
		t.Error(taken)
	}
}

func Test2_3SmallTexts(t *testing.T) {
	texts([]string{"a", "z", "0", "1", "-", "<", ">", "=", "!", " ", "\n", "#", "A"}, 4, func(s string) { hold(t, s) })
	texts(append(allSigns, ">", "!", "x", "12", "0", " ", "\t", "\n", "# c", "B", "\xff", "\x00"), 3, func(s string) { hold(t, s) })
}

func Test2_3OfWords(t *testing.T) {
	// Any row of tokens, laid apart by blanks, is told as it was laid.
	words := []string{"test", "r3", "0", "-1", "-", "<<", "<", "==", "=", "!=", ">>", "^", ":"}
	for _, a := range words {
		for _, b := range words {
			for _, blank := range []string{" ", "\t", "\n", "# > c\n", " \t\n "} {
				tokens, err := All(a + blank + b)
				if err != (api.Err{}) || !slices.Equal(textsOf(tokens), []string{a, b, ""}) || tokens[1].At != len(a+blank) {
					t.Errorf("%q %q: %v, %v", a, b, tokens, err)
				}
			}
		}
	}
}

func Test2_4EndsAndDoesNotPanic(t *testing.T) {
	// Bytes from a plain rule, so that they are the same each time.
	seed := uint32(1)
	for n := range 3000 {
		b := make([]byte, n%97)
		for i := range b {
			seed = seed*1664525 + 1013904223
			b[i] = byte(seed >> 24)
			if n%3 > 0 {
				b[i] = "ar09-<>=!#{};: \n\t1+x"[int(seed>>16)%20]
			}
		}
		hold(t, string(b))
	}
	hold(t, strings.Repeat("9", 1<<20))
	hold(t, strings.Repeat("#\n", 1<<18))
	hold(t, strings.Repeat("a", 1<<20)+"!")
}
