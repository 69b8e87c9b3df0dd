package play

import (
	"math/rand"
	"slices"
	"strconv"
	"strings"
	"testing"
)

// names are the names of all picks, in their order, written out.
var names = strings.Fields("t0 t1 t2 t3 f0 f1 f2 f3 f0.0 f0.1 f0.2 f0.3 f1.0 f1.1 f1.2 f1.3 f2.0 f2.1 f2.2 f2.3 f3.0 f3.1 f3.2 f3.3")

// name is the name of any number; empty of those that are no pick.
func name(i int) string {
	if i < 0 || i >= len(names) {
		return ""
	}
	return names[i]
}

// back is the row that s names, found in the list of names.
func back(s string) ([]int, bool) {
	if s == "" {
		return nil, true
	}
	var row []int
	for _, word := range strings.Split(s, " ") {
		at := slices.Index(names, word)
		if at < 0 {
			return nil, false
		}
		row = append(row, at)
	}
	return row, true
}

func holdParse(t *testing.T, s string) {
	t.Helper()
	row, ok := Parse(s)
	if want, is := back(s); ok != is || !slices.Equal(row, want) {
		t.Fatalf("%q: %v %v, want %v %v", s, row, ok, want, is)
	}
}

func Test17_1Text(t *testing.T) {
	for _, x := range []struct {
		picks []int
		want  string
	}{
		{nil, ""},
		{[]int{}, ""},
		{[]int{0}, "t0"},
		{[]int{0, 4, 13}, "t0 f0 f1.1"},
		{[]int{3, 3}, "t3 t3"},
		{[]int{7, 8, 23, 20, 11}, "f3 f0.0 f3.3 f3.0 f0.3"},
		{[]int{23, 0, 1, 2, 3, 4, 5, 6, 7}, "f3.3 t0 t1 t2 t3 f0 f1 f2 f3"},
		{[]int{-1}, ""},
		{[]int{24}, ""},
		{[]int{24, 99}, " "},
		{[]int{99, 0, -1}, " t0 "},
		{[]int{0, 24, 0}, "t0  t0"},
	} {
		if got := Text(x.picks); got != x.want {
			t.Errorf("%v: %q, want %q", x.picks, got, x.want)
		}
	}
	for i := -300; i < 300; i++ {
		if got := Text([]int{i}); got != name(i) {
			t.Errorf("%d: %q", i, got)
		}
	}
}

// Each pick's name is parsed back, alone, twice and beside each other one.
func Test17_1ThereAndBack(t *testing.T) {
	if row, ok := Parse(Text(nil)); len(row) != 0 || !ok {
		t.Error(row, ok)
	}
	for i := range names {
		rows := [][]int{{i}, {i, i}, {i, i, i}}
		for j := range names {
			rows = append(rows, []int{i, j}, []int{j, i, j})
		}
		for _, row := range rows {
			want := names[row[0]]
			for _, j := range row[1:] {
				want += " " + names[j]
			}
			s := Text(row)
			if got, ok := Parse(s); s != want || !ok || !slices.Equal(got, row) {
				t.Errorf("%v: %q %v %v", row, s, got, ok)
			}
		}
	}
	r := rand.New(rand.NewSource(174))
	for range 3000 {
		row := make([]int, r.Intn(60))
		for at := range row {
			row[at] = r.Intn(len(names))
		}
		s := Text(row)
		if got, ok := Parse(s); !ok || !slices.Equal(got, row) || Text(got) != s {
			t.Fatalf("%v: %q %v %v", row, s, got, ok)
		}
	}
}

// Texts that are no row, and their like that are one.
func Test17_1Parse(t *testing.T) {
	for _, x := range []struct {
		s    string
		want []int
		ok   bool
	}{
		{"", nil, true},
		{"t0", []int{0}, true},
		{"t0 f0 f1.1", []int{0, 4, 13}, true},
		{"f3.3 f3.3", []int{23, 23}, true},
		{" ", nil, false},
		{"  ", nil, false},
		{" t0", nil, false},
		{"t0 ", nil, false},
		{"t0  t0", nil, false},
		{"t0\tt0", nil, false},
		{"t0\nt0", nil, false},
		{"t0\n", nil, false},
		{"t0\x00", nil, false},
		{"t0,t1", nil, false},
		{"t0t1", nil, false},
		{"t", nil, false},
		{"f", nil, false},
		{"0", nil, false},
		{"t 0", nil, false},
		{"t4", nil, false},
		{"f4", nil, false},
		{"t7", nil, false},
		{"t8", nil, false},
		{"t9", nil, false},
		{"t-1", nil, false},
		{"t+1", nil, false},
		{"t00", nil, false},
		{"t01", nil, false},
		{"f00", nil, false},
		{"f0.", nil, false},
		{"f0.00", nil, false},
		{"f00.0", nil, false},
		{"f0.4", nil, false},
		{"f4.0", nil, false},
		{"f.0", nil, false},
		{"f0.-1", nil, false},
		{"f+0.1", nil, false},
		{"f0..0", nil, false},
		{"f0,0", nil, false},
		{"f0.0.0", nil, false},
		{"t0.0", nil, false},
		{"T0", nil, false},
		{"F0", nil, false},
		{"g0", nil, false},
		{"x0", nil, false},
		{"a1.1", nil, false},
		{"t\xb0", nil, false},
		{"tp", nil, false},
		{"t٠", nil, false},
		{"t10", nil, false},
		{"t16", nil, false},
		{"t4294967296", nil, false},
		{"t18446744073709551616", nil, false},
		{"f256", nil, false},
		{"f0.256", nil, false},
		{"t0 t1 t4", nil, false},
		{"t4 t1 t0", nil, false},
		{"t0 x t0", nil, false},
	} {
		row, ok := Parse(x.s)
		if ok != x.ok || !slices.Equal(row, x.want) {
			t.Errorf("%q: %v %v", x.s, row, ok)
		}
		holdParse(t, x.s)
	}
}

// All short texts of the letters that names are made of, and of some others.
func Test17_1ShortTexts(t *testing.T) {
	const letters = "tf01234. x"
	var longer func(s string, n int)
	longer = func(s string, n int) {
		holdParse(t, s)
		if n == 0 {
			return
		}
		for at := range letters {
			longer(s+letters[at:at+1], n-1)
		}
	}
	longer("", 5)
	for a := range 256 {
		for b := range 256 {
			holdParse(t, string([]byte{byte(a), byte(b)}))
		}
	}
}

// Texts of rows with one byte changed, added or taken away.
func Test17_1SpoiltTexts(t *testing.T) {
	for _, s := range []string{"t2", "f1", "f3.0", "t0 f0 f1.1", "f2.3 t3"} {
		for at := range len(s) + 1 {
			for c := range 256 {
				holdParse(t, s[:at]+string([]byte{byte(c)})+s[at:])
				if at < len(s) {
					holdParse(t, s[:at]+string([]byte{byte(c)})+s[at+1:])
				}
			}
			holdParse(t, s[:at])
			holdParse(t, s[at:])
			if at < len(s) {
				holdParse(t, s[:at]+s[at+1:])
			}
		}
	}
}

// Any bytes, and any words.
func Test17_3AnyText(t *testing.T) {
	r := rand.New(rand.NewSource(175))
	words := append(slices.Clone(names), "", "t", "f4", "t04", "f0.", "é", "\xff", "t0\xff")
	for _, i := range odd {
		n := strconv.Itoa(i)
		words = append(words, n, "t"+n, "f"+n, "f"+n+"."+n, "f0."+n)
	}
	for range 20000 {
		b := make([]byte, r.Intn(12))
		for at := range b {
			b[at] = byte(r.Intn(256))
		}
		holdParse(t, string(b))
		var row []string
		for range r.Intn(5) {
			k := len(names)
			if r.Intn(8) == 0 {
				k = len(words)
			}
			row = append(row, words[r.Intn(k)])
		}
		holdParse(t, strings.Join(row, " "))
	}
	for _, word := range words {
		holdParse(t, word)
	}
}

// Great texts and great rows.
func Test17_3GreatTexts(t *testing.T) {
	const many = 1_000_000
	row := make([]int, many)
	for at := range row {
		row[at] = at * 7 % len(names)
	}
	s := Text(row)
	if got, ok := Parse(s); !ok || !slices.Equal(got, row) {
		t.Error("a great row isn't parsed back")
	}
	for _, bad := range []string{s + " ", s + " t4", s + "0", " " + s, s[1:], strings.Repeat(" ", many), strings.Repeat("t", many), strings.Repeat("f0.", many), "t" + strings.Repeat("0", many), "f0." + strings.Repeat("0", many)} {
		if row, ok := Parse(bad); ok || row != nil {
			t.Error(len(row), ok)
		}
	}
	for at := range row {
		row[at] = odd[at%len(odd)]
	}
	s = Text(row)
	if strings.Count(s, " ") != many-1 {
		t.Error("a great row has another text")
	}
	if row, ok := Parse(s); ok || row != nil {
		t.Error(len(row), ok)
	}
}
