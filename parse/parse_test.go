package parse

import (
	"fmt"
	"math"
	"math/rand"
	"reflect"
	"regexp"
	"strconv"
	"strings"
	"testing"

	"jacquard/api"
	"jacquard/lex"
)

// A second reader of texts, that Parse is held against: the language has no
// nesting, so that it is a table. Of each state: what may stand there, and
// where it leads. Words in capitals are kinds, all else stands as it is.
var states = map[string]string{
	"start":    "test>name",
	"name":     "WORD>open",
	"open":     "{>body",
	"body":     "init>initopen thread>threadopen exists>atom forall>atom }>end",
	"initopen": "{>init",
	"init":     "}>threads LOC>initis",
	"initis":   "=>initnum",
	"initnum":  "NUM>initsemi",
	"initsemi": ";>init",

	"threads":    "thread>threadopen exists>atom forall>atom }>end",
	"threadopen": "{>ins",
	"ins":        "}>threads store>storeloc fence>semi skip>far REG>is",
	"semi":       ";>ins",
	"storeloc":   "LOC>last",
	"last":       "REG>semi NUM>semi",
	"is":         "=>value",
	"value":      "load>loadloc cas>casloc REG>sign NUM>sign",
	"loadloc":    "LOC>semi",
	"casloc":     "LOC>casfirst",
	"casfirst":   "REG>last NUM>last",
	"sign":       ";>ins OP>last",
	"far":        "NAT>if",
	"if":         "if>iffirst",
	"iffirst":    "REG>ifis NUM>ifis",
	"ifis":       "==>last",

	"atom":    "LOC>atomis DIGIT>colon",
	"colon":   ":>atomreg",
	"atomreg": "REG>atomis",
	"atomis":  "=>atomnum",
	"atomnum": "NUM>more",
	"more":    "&>atom |>atom ;>close",
	"close":   "}>end",
	"end":     "END>done",
}

var kinds = map[string]*regexp.Regexp{
	"WORD":  regexp.MustCompile(`\A[a-z][a-z0-9]*\z`),
	"LOC":   regexp.MustCompile(`\A[a-z]\z`),
	"REG":   regexp.MustCompile(`\Ar[0-3]\z`),
	"NUM":   regexp.MustCompile(`\A-?[0-9]+\z`),
	"NAT":   regexp.MustCompile(`\A[0-9]+\z`),
	"DIGIT": regexp.MustCompile(`\A[0-9]\z`),
	"OP":    regexp.MustCompile(`\A(\+|-|\*|&|\||\^|<<|>>|==|!=|<)\z`),
	"END":   regexp.MustCompile(`\A\z`),
}

// lead answers the state behind the token; empty if it can't stand there.
func lead(state, text string) string {
	for _, way := range strings.Fields(states[state]) {
		i := strings.LastIndex(way, ">")
		what, to := way[:i], way[i+1:]
		if k := kinds[what]; what == text || k != nil && k.MatchString(text) {
			return to
		}
	}
	return ""
}

// refusal is how a token that can't stand in the state is called.
func refusal(state, text string) api.Errno {
	names := strings.Contains(states[state], "LOC") || strings.Contains(states[state], "REG")
	if names && kinds["WORD"].MatchString(text) {
		return api.ErrName
	}
	if strings.Contains(states[state], "DIGIT") && kinds["NUM"].MatchString(text) {
		return api.ErrName
	}
	return api.ErrSyntax
}

// wanted answers the error of s, and the state in which it is met.
func wanted(s string) (api.Err, string) {
	state := "start"
	for l := lex.New(s); state != "done"; {
		token, err := l.Next()
		if err.Code != api.OK {
			return err, state
		}
		to := lead(state, token.Text)
		if to == "" {
			return api.Err{Code: refusal(state, token.Text), At: token.At}, state
		}
		state = to
	}
	return api.Err{}, state
}

func hold(t *testing.T, s string) api.Test {
	t.Helper()
	want, state := wanted(s)
	got, err := Parse(s)
	if err != want {
		t.Fatalf("%q: error %v, not %v (in state %s)", s, err, want, state)
	}
	if err.Code != api.OK && !reflect.DeepEqual(got, api.Test{}) {
		t.Fatalf("%q: beside %v stands %v", s, err, got)
	}
	return got
}

// tell is a test as a text in which nil and an empty list are the same.
func tell(t api.Test) string {
	return fmt.Sprint(t)
}

func holdTree(t *testing.T, s string, want api.Test) {
	t.Helper()
	got, err := Parse(s)
	if err != (api.Err{}) || tell(got) != tell(want) {
		t.Fatalf("%q:\n%v, %v, not\n%v", s, tell(got), err, tell(want))
	}
}

func holdError(t *testing.T, s string, code api.Errno, at int) {
	t.Helper()
	if got, err := Parse(s); err != (api.Err{Code: code, At: at}) || !reflect.DeepEqual(got, api.Test{}) {
		t.Errorf("%q: %v, %v, not %d at %d", s, got, err, code, at)
	}
}

func reg(n int) api.Operand     { return api.Operand{Reg: n} }
func value(n int64) api.Operand { return api.Operand{Reg: -1, Value: n} }

func inThread(ins ...api.Ins) api.Test {
	return api.Test{Name: "a", Threads: [][]api.Ins{ins}}
}

func TestExample(t *testing.T) {
	holdTree(t, "test a { thread { fence ; } }", inThread(api.Ins{Kind: api.IFence}))
}

func Test3_1Instructions(t *testing.T) {
	for s, want := range map[string]api.Ins{
		"store x 1":                          {Kind: 1, Loc: 'x', A: value(1)},
		"store a r3":                         {Kind: 1, Loc: 'a', A: reg(3)},
		"store r -7":                         {Kind: 1, Loc: 'r', A: value(-7)},
		"r0 = load z":                        {Kind: 2, Loc: 'z'},
		"r3 = load a":                        {Kind: 2, Reg: 3, Loc: 'a'},
		"fence":                              {Kind: 3},
		"r1 = cas y 0 r2":                    {Kind: 4, Reg: 1, Loc: 'y', A: value(0), B: reg(2)},
		"r2 = cas y r0 -1":                   {Kind: 4, Reg: 2, Loc: 'y', A: reg(0), B: value(-1)},
		"r1 = 5":                             {Kind: 5, Reg: 1, A: value(5), B: value(0)},
		"r1 = r2":                            {Kind: 5, Reg: 1, A: reg(2), B: value(0)},
		"r1 = 0":                             {Kind: 5, Reg: 1, A: value(0), B: value(0)},
		"skip 3 if r0 == 1":                  {Kind: 6, N: 3, A: reg(0), B: value(1)},
		"skip 0 if -1 == r3":                 {Kind: 6, N: 0, A: value(-1), B: reg(3)},
		"skip 12345 if 0 == 0":               {Kind: 6, N: 12345, A: value(0), B: value(0)},
		"r0 = r0 - r1":                       {Kind: 5, A: reg(0), Op: api.OSub, B: reg(1)},
		"r0 = 1 - -1":                        {Kind: 5, A: value(1), Op: api.OSub, B: value(-1)},
		"r0=r1--1":                           {Kind: 5, A: reg(1), Op: api.OSub, B: value(-1)},
		"r0=-1<-2":                           {Kind: 5, A: value(-1), Op: api.OLess, B: value(-2)},
		"r0=1<<r2":                           {Kind: 5, A: value(1), Op: api.OShl, B: reg(2)},
		"r0=r1==r2":                          {Kind: 5, A: reg(1), Op: api.OEq, B: reg(2)},
		"skip 1 if 1==-1":                    {Kind: 6, N: 1, A: value(1), B: value(-1)},
		"store x -9223372036854775808":       {Kind: 1, Loc: 'x', A: value(math.MinInt64)},
		"skip 9223372036854775807 if 1 == 2": {Kind: 6, N: math.MaxInt64, A: value(1), B: value(2)},
	} {
		holdTree(t, "test a { thread { "+s+" ; } }", inThread(want))
		holdTree(t, "test a{thread{"+s+";fence;}}", inThread(want, api.Ins{Kind: api.IFence}))
	}
}

func Test3_1EverySign(t *testing.T) {
	for i, sign := range strings.Fields("+ - * & | ^ << >> == != <") {
		ins := api.Ins{Kind: api.ISet, Reg: 2, A: reg(1), Op: i + 1, B: value(7)}
		holdTree(t, "test a { thread { r2 = r1 "+sign+" 7 ; } }", inThread(ins))
	}
}

func Test3_1EveryLetterAndRegister(t *testing.T) {
	for c := byte('a'); c <= 'z'; c++ {
		want := inThread(api.Ins{Kind: api.IStore, Loc: int(c), A: value(1)}, api.Ins{Kind: api.ILoad, Loc: int(c)}, api.Ins{Kind: api.ICas, Loc: int(c), A: value(1), B: value(2)})
		want.Init = []api.Init{{Loc: int(c), Value: 3}}
		want.Cond = api.Cond{Kind: api.CForall, Any: [][]api.Atom{{{Thread: -1, Loc: int(c), Value: 4}}}}
		x := string(c)
		holdTree(t, "test a { init { "+x+" = 3 ; } thread { store "+x+" 1 ; r0 = load "+x+" ; r0 = cas "+x+" 1 2 ; } forall "+x+" = 4 ; }", want)
	}
	for n := range 4 {
		want := inThread(api.Ins{Kind: api.ISet, Reg: n, A: reg(n), B: value(0)})
		want.Cond = api.Cond{Kind: api.CExists, Any: [][]api.Atom{{{Reg: n, Value: 1}}}}
		r := "r" + strconv.Itoa(n)
		holdTree(t, "test a { thread { "+r+" = "+r+" ; } exists 0 : "+r+" = 1 ; }", want)
	}
}

func Test3_1Parts(t *testing.T) {
	holdTree(t, "test a { }", api.Test{Name: "a"})
	holdTree(t, "test ab12 { init { } }", api.Test{Name: "ab12"})
	holdTree(t, "test a { init { x = 1 ; x = 2 ; b = -3 ; } }", api.Test{Name: "a", Init: []api.Init{{Loc: 'x', Value: 1}, {Loc: 'x', Value: 2}, {Loc: 'b', Value: -3}}})
	holdTree(t, "test a { thread { } }", api.Test{Name: "a", Threads: [][]api.Ins{{}}})
	holdTree(t, "test a { thread { } thread { fence ; fence ; } thread { } }", api.Test{Name: "a", Threads: [][]api.Ins{{}, {{Kind: 3}, {Kind: 3}}, {}}})
	// Limits are not this layer's: more threads, instructions and locations than may be checked.
	many := strings.Repeat("thread { "+strings.Repeat("fence ; ", 30)+"} ", 12)
	if got, err := Parse("test a { " + many + "}"); err != (api.Err{}) || len(got.Threads) != 12 || len(got.Threads[11]) != 30 {
		t.Error(err, len(got.Threads))
	}
}

func Test3_1Conditions(t *testing.T) {
	x, y := api.Atom{Thread: -1, Loc: 'x', Value: 1}, api.Atom{Thread: -1, Loc: 'y', Value: -2}
	first, last := api.Atom{Thread: 0, Reg: 3, Value: 5}, api.Atom{Thread: 9, Reg: 0, Value: 0}
	for s, want := range map[string][][]api.Atom{
		"x = 1":           {{x}},
		"0 : r3 = 5":      {{first}},
		"9:r0=0":          {{last}},
		"x = 1 & y = -2":  {{x, y}},
		"x = 1 | y = -2":  {{x}, {y}},
		"x=1&y=-2|9:r0=0": {{x, y}, {last}},
		"x=1|y=-2&9:r0=0": {{x}, {y, last}},
		"x=1 & x=1 | x=1 | 0:r3=5 & y=-2 & 9:r0=0": {{x, x}, {x}, {first, y, last}},
	} {
		holdTree(t, "test a { exists "+s+" ; }", api.Test{Name: "a", Cond: api.Cond{Kind: 1, Any: want}})
		holdTree(t, "test a { init { } thread { } forall "+s+" ; }", api.Test{Name: "a", Threads: [][]api.Ins{{}}, Cond: api.Cond{Kind: 2, Any: want}})
	}
}

func Test3_1NamesAreAnyWords(t *testing.T) {
	for _, name := range strings.Fields("test init thread exists forall store load fence cas skip if r0 r4 x a1b2 z99999999999999999999") {
		holdTree(t, "test "+name+" { }", api.Test{Name: name})
		holdTree(t, "test "+name+"{thread{fence;}}", api.Test{Name: name, Threads: [][]api.Ins{{{Kind: 3}}}})
	}
}

// writer makes trees, and the tokens that they are written with.
type writer struct {
	random *rand.Rand
	tokens []string
}

func (w *writer) add(tokens ...string) { w.tokens = append(w.tokens, tokens...) }

func (w *writer) location() int {
	loc := 'a' + w.random.Intn(26)
	w.add(string(rune(loc)))
	return loc
}

func (w *writer) register() int {
	n := w.random.Intn(4)
	w.add("r" + strconv.Itoa(n))
	return n
}

func (w *writer) number() int64 {
	n := int64(w.random.Uint64()) >> w.random.Intn(64)
	w.add(strconv.FormatInt(n, 10))
	return n
}

func (w *writer) operand() api.Operand {
	if w.random.Intn(2) == 0 {
		return reg(w.register())
	}
	return value(w.number())
}

func (w *writer) instruction() api.Ins {
	ins := api.Ins{Kind: 1 + w.random.Intn(6)}
	switch ins.Kind {
	case api.IStore:
		w.add("store")
		ins.Loc, ins.A = w.location(), w.operand()
	case api.IFence:
		w.add("fence")
	case api.ISkip:
		ins.N = w.random.Intn(20)
		w.add("skip", strconv.Itoa(ins.N), "if")
		ins.A = w.operand()
		w.add("==")
		ins.B = w.operand()
	default:
		ins.Reg = w.register()
		w.add("=")
		w.assigned(&ins)
	}
	w.add(";")
	return ins
}

func (w *writer) assigned(ins *api.Ins) {
	switch ins.Kind {
	case api.ILoad:
		w.add("load")
		ins.Loc = w.location()
	case api.ICas:
		w.add("cas")
		ins.Loc, ins.A, ins.B = w.location(), w.operand(), w.operand()
	case api.ISet:
		ins.A, ins.B, ins.Op = w.operand(), value(0), w.random.Intn(12)
		if ins.Op != 0 {
			w.add(strings.Fields("+ - * & | ^ << >> == != <")[ins.Op-1])
			ins.B = w.operand()
		}
	}
}

func (w *writer) atom() api.Atom {
	atom := api.Atom{Thread: w.random.Intn(11) - 1}
	if atom.Thread < 0 {
		atom.Loc = w.location()
	} else {
		w.add(strconv.Itoa(atom.Thread), ":")
		atom.Reg = w.register()
	}
	w.add("=")
	atom.Value = w.number()
	return atom
}

func (w *writer) condition() api.Cond {
	cond := api.Cond{Kind: w.random.Intn(3)}
	if cond.Kind == 0 {
		return cond
	}
	sign := []string{"exists", "forall"}[cond.Kind-1]
	for range 1 + w.random.Intn(3) {
		var row []api.Atom
		for range 1 + w.random.Intn(3) {
			w.add(sign)
			row = append(row, w.atom())
			sign = "&"
		}
		cond.Any = append(cond.Any, row)
		sign = "|"
	}
	w.add(";")
	return cond
}

func (w *writer) test() api.Test {
	test := api.Test{Name: []string{"a", "store", "r1", "x9"}[w.random.Intn(4)]}
	w.add("test", test.Name, "{")
	if w.random.Intn(2) == 0 {
		w.add("init", "{")
		for range w.random.Intn(3) {
			loc := w.location()
			w.add("=")
			test.Init = append(test.Init, api.Init{Loc: loc, Value: w.number()})
			w.add(";")
		}
		w.add("}")
	}
	for range w.random.Intn(4) {
		var thread []api.Ins
		w.add("thread", "{")
		for range w.random.Intn(5) {
			thread = append(thread, w.instruction())
		}
		w.add("}")
		test.Threads = append(test.Threads, thread)
	}
	test.Cond = w.condition()
	w.add("}")
	return test
}

var (
	endsWord   = regexp.MustCompile(`[a-z0-9]\z`)
	beginsWord = regexp.MustCompile(`\A[a-z0-9]`)
	spaces     = []string{" ", "\t", "\n", "  \n", "# test { >\n", " #\n#\n\t"}
)

// spread joins tokens with blanks and comments anywhere, or with as few as may be.
func spread(random *rand.Rand, tokens []string, tight bool) string {
	var out strings.Builder
	before := ""
	for _, token := range tokens {
		glued := beginsWord.MatchString(token) && (endsWord.MatchString(before) || before == "-")
		if glued || !tight && random.Intn(3) > 0 {
			out.WriteString(spaces[random.Intn(len(spaces))])
		}
		out.WriteString(token)
		before = token
	}
	if !tight {
		out.WriteString(spaces[random.Intn(len(spaces))] + "# end")
	}
	return out.String()
}

func newWriter(seed int64) *writer {
	return &writer{random: rand.New(rand.NewSource(seed))}
}

func Test3_1TreesOfAllShapes(t *testing.T) {
	for seed := range int64(4000) {
		w := newWriter(seed)
		want := w.test()
		for _, s := range []string{strings.Join(w.tokens, " "), spread(w.random, w.tokens, true), spread(w.random, w.tokens, false)} {
			if len(s) <= api.MaxText {
				holdTree(t, s, want)
			}
		}
	}
}

func Test3_2LexFirstOrLast(t *testing.T) {
	holdError(t, ">", api.ErrSign, 0)
	holdError(t, "test a { > foo }", api.ErrSign, 9)
	holdError(t, "test a { foo > }", api.ErrSyntax, 9)
	holdError(t, "test a { 01 foo }", api.ErrNum, 9)
	holdError(t, "test a { foo 01 }", api.ErrSyntax, 9)
	holdError(t, "test a { } !", api.ErrSign, 11)
	holdError(t, "test a { } } !", api.ErrSyntax, 11)
	holdError(t, "test a { thread { store x -0 ; } }", api.ErrNum, 26)
	holdError(t, "test a { thread { skip -1 9223372036854775808", api.ErrSyntax, 23)
	holdError(t, "test a { thread { skip 9223372036854775808", api.ErrNum, 23)
	holdError(t, "test a { thread { r4 > 1 ; } }", api.ErrName, 18)
	holdError(t, "test a { thread { r3 > 1 ; } }", api.ErrSign, 21)
	holdError(t, "test a { init { xy é", api.ErrName, 16)
	holdError(t, "test a { exists 10 A", api.ErrName, 16)
	holdError(t, "test A { }", api.ErrSign, 5)
}

func Test3_2Long(t *testing.T) {
	body := "test a { thread { fence ; } }"
	holdTree(t, body+strings.Repeat(" ", api.MaxText-len(body)), inThread(api.Ins{Kind: api.IFence}))
	for _, s := range []string{body, "", "tes", ">", "test a { thread { fence ; } } }"} {
		holdError(t, s+strings.Repeat(" ", api.MaxText+1-len(s)), api.ErrLong, 4000)
		holdError(t, s+strings.Repeat("\n", 1<<20), api.ErrLong, 4000)
	}
	holdError(t, strings.Repeat(" ", api.MaxText), api.ErrSyntax, 4000)
	holdError(t, strings.Repeat(" ", api.MaxText-1)+">", api.ErrSign, 3999)
}

func Test3_2Names(t *testing.T) {
	// A word of more than one letter, or a register, where a location must stand.
	for _, word := range strings.Fields("xy r0 r1 x1 load store init aaaaaaaaaaaaaaaaaaaaaaaaaaaaa") {
		holdError(t, "test a { init { "+word+" = 1 ; } }", api.ErrName, 16)
		holdError(t, "test a { init { x = 1 ; "+word, api.ErrName, 24)
		holdError(t, "test a { thread { store "+word+" 1 ; } }", api.ErrName, 24)
		holdError(t, "test a { thread { r0 = load "+word+" ; } }", api.ErrName, 28)
		holdError(t, "test a { thread { r0 = cas "+word+" 1 1 ; } }", api.ErrName, 27)
		holdError(t, "test a { exists "+word+" = 1 ; }", api.ErrName, 16)
		holdError(t, "test a { exists x = 1 | "+word+" = 1 ; }", api.ErrName, 24)
	}
	// Words that are no register.
	for _, word := range strings.Fields("r4 r9 ra rz r r00 r10 x0 q1 x s3 thread if") {
		holdError(t, "test a { thread { "+word+" = 1 ; } }", api.ErrName, 18)
		holdError(t, "test a { thread { store x "+word+" ; } }", api.ErrName, 26)
		holdError(t, "test a { thread { r0 = "+word+" ; } }", api.ErrName, 23)
		holdError(t, "test a { thread { r0 = 1 + "+word+" ; } }", api.ErrName, 27)
		holdError(t, "test a { thread { r0 = cas x "+word+" 1 ; } }", api.ErrName, 29)
		holdError(t, "test a { thread { r0 = cas x 1 "+word+" ; } }", api.ErrName, 31)
		holdError(t, "test a { thread { skip 1 if "+word+" == 1 ; } }", api.ErrName, 28)
		holdError(t, "test a { thread { skip 1 if 1 == "+word+" ; } }", api.ErrName, 33)
		holdError(t, "test a { exists 0 : "+word+" = 1 ; }", api.ErrName, 20)
	}
	for _, number := range strings.Fields("10 11 99 -1 -9 256 4294967296 9223372036854775807 -9223372036854775808") {
		holdError(t, "test a { forall "+number+" : r0 = 1 ; }", api.ErrName, 16)
		holdError(t, "test a { exists x = 1 & "+number+" : r0 = 1 ; }", api.ErrName, 24)
	}
}

func Test3_2Syntax(t *testing.T) {
	// No word at all where a name must stand.
	for _, token := range strings.Fields("5 -1 ; = { } : + ==") {
		holdError(t, "test "+token+" { }", api.ErrSyntax, 5)
		holdError(t, "test a { thread { store "+token+" 1 ; } }", api.ErrSyntax, 24)
		holdError(t, "test a { thread { r0 = load "+token+" ; } }", api.ErrSyntax, 28)
		holdError(t, "test a { exists 0 : "+token+" = 1 ; }", api.ErrSyntax, 20)
	}
	for _, number := range strings.Fields("-1 -2 -9223372036854775808") {
		holdError(t, "test a { thread { skip "+number+" if 1 == 1 ; } }", api.ErrSyntax, 23)
	}
	for _, token := range strings.Fields("r0 x if ; ==") {
		holdError(t, "test a { thread { skip "+token+" if 1 == 1 ; } }", api.ErrSyntax, 23)
		holdError(t, "test a { init { x = "+token+" ; } }", api.ErrSyntax, 20)
		holdError(t, "test a { exists x = "+token+" ; }", api.ErrSyntax, 20)
	}
	for _, word := range strings.Fields("foo x r0 test fence store skip if load inits ex") {
		holdError(t, "test a { "+word+" }", api.ErrSyntax, 9)
		holdError(t, "test a { init { } "+word+" }", api.ErrSyntax, 18)
		holdError(t, "test a { thread { } "+word+" }", api.ErrSyntax, 20)
		holdError(t, "test a { exists x = 1 ; "+word+" }", api.ErrSyntax, 24)
	}
	holdError(t, "test a { thread { r0 = 1 -1 ; } }", api.ErrSyntax, 25)
	holdError(t, "test a { thread { r0 = r1 r2 ; } }", api.ErrSyntax, 26)
	holdError(t, "test a { thread { r0 = 1 + 2 + 3 ; } }", api.ErrSyntax, 29)
	holdError(t, "test a { thread { fence ; ; } }", api.ErrSyntax, 26)
	holdError(t, "test a { exists x = 1 & | y = 1 ; }", api.ErrSyntax, 24)
}

func Test3_2Order(t *testing.T) {
	holdError(t, "test a { init { } init { } }", api.ErrSyntax, 18)
	holdError(t, "test a { thread { } init { } }", api.ErrSyntax, 20)
	holdError(t, "test a { exists x = 1 ; init { } }", api.ErrSyntax, 24)
	holdError(t, "test a { forall x = 1 ; thread { } }", api.ErrSyntax, 24)
	holdError(t, "test a { forall x = 1 ; exists x = 1 ; }", api.ErrSyntax, 24)
	holdError(t, "test a { exists x = 1 ; exists x = 1 ; }", api.ErrSyntax, 24)
	holdError(t, "test a { thread { thread { } } }", api.ErrName, 18)
}

const whole = `test ab1 { init { x = -5 ; y = 7 ; }
thread { store x 1 ; r0 = load y ; fence ; r3 = cas x r0 -2 ; r1 = r2 ; r1 = 5 << r0 ; skip 2 if r0 == 1 ; }
thread { } # none
forall 0 : r1 = 4 & x = 3 | y = -1 ; }`

func Test3_2CutAndGrown(t *testing.T) {
	tokens, _ := lex.All(whole)
	for _, token := range tokens[:len(tokens)-1] {
		// Cut ahead of a token, the text ends where something must stand.
		cut := whole[:token.At]
		holdError(t, cut, api.ErrSyntax, len(cut))
		hold(t, cut+token.Text+" "+token.Text+whole[token.At+len(token.Text):])
		hold(t, cut+whole[token.At+len(token.Text):])
	}
	for _, extra := range strings.Fields("x } { ; 5 test thread") {
		holdError(t, whole+" "+extra, api.ErrSyntax, len(whole)+1)
	}
	holdError(t, whole+whole, api.ErrSyntax, len(whole))
	holdTree(t, whole+"# test", hold(t, whole))
}

// samples stand for all tokens: each that is written out, and some of each kind.
var samples = strings.Fields("test init thread exists forall store load fence cas skip if a x r zz foo r0 r3 r4 r10 0 1 9 10 -1 -9 77 { } ; : = + - * & | ^ << >> == != < > 01 -0 A !")

// ways goes from the start to each state by as few tokens as may be.
func ways() map[string]string {
	found := map[string]string{"start": ""}
	for row := []string{"start"}; len(row) > 0; row = row[1:] {
		for _, token := range append([]string{""}, samples...) {
			to := lead(row[0], token)
			if _, ok := found[to]; !ok && to != "" {
				found[to] = found[row[0]] + token + " "
				row = append(row, to)
			}
		}
	}
	return found
}

func Test3_3OneFirstErrorInEachState(t *testing.T) {
	found := ways()
	for state := range states {
		way, ok := found[state]
		if !ok {
			t.Fatal("no way to", state)
		}
		hold(t, way)
		for _, token := range samples {
			hold(t, way+token)
			// What stands behind a token does not hide its error, nor change its place.
			for _, next := range samples {
				hold(t, way+token+"\n"+next)
				hold(t, way+token+next)
			}
		}
	}
}

func Test3_3EachByteChanged(t *testing.T) {
	for at := range len(whole) {
		for c := range 256 {
			hold(t, whole[:at]+string([]byte{byte(c)})+whole[at+1:])
		}
		hold(t, whole[:at]+whole[at+1:])
		hold(t, whole[:at])
		hold(t, whole[at:])
	}
}

func Test3_3TokensChanged(t *testing.T) {
	for seed := range int64(20000) {
		w := newWriter(seed)
		w.test()
		for range 1 + w.random.Intn(3) {
			at, token := w.random.Intn(len(w.tokens)), samples[w.random.Intn(len(samples))]
			switch w.random.Intn(3) {
			case 0:
				w.tokens[at] = token
			case 1:
				w.tokens = append(w.tokens[:at:at], append([]string{token}, w.tokens[at:]...)...)
			case 2:
				w.tokens = append(w.tokens[:at:at], w.tokens[at+1:]...)
			}
		}
		if s := spread(w.random, w.tokens, seed%2 == 0); len(s) <= api.MaxText {
			hold(t, s)
		}
	}
}

// overwrite fills each list of a test, and the room behind it.
func overwrite(test api.Test) {
	fill(test.Init, api.Init{Loc: -7})
	for _, thread := range test.Threads {
		fill(thread, api.Ins{Kind: -7})
	}
	for _, row := range test.Cond.Any {
		fill(row, api.Atom{Loc: -7})
	}
	fill(test.Threads, nil)
	fill(test.Cond.Any, nil)
}

func fill[T any](list []T, with T) {
	list = list[:cap(list)]
	for i := range list {
		list[i] = with
	}
}

func Test3_3TheSameTextTheSameTree(t *testing.T) {
	first := hold(t, whole)
	told := tell(first)
	second := hold(t, whole)
	// A list that is added to leaves the others of the answer as they are.
	for i := range first.Threads {
		_ = append(first.Threads[i], api.Ins{Kind: -7})
	}
	for i := range first.Cond.Any {
		_ = append(first.Cond.Any[i], api.Atom{Loc: -7})
	}
	if tell(first) != told {
		t.Error("lists of one answer share memory:", tell(first))
	}
	overwrite(first)
	if tell(second) != told || tell(hold(t, whole)) != told {
		t.Error("two answers share memory")
	}
}

func Test3_4AnyBytes(t *testing.T) {
	random := rand.New(rand.NewSource(4))
	for range 20000 {
		bytes := make([]byte, random.Intn(60))
		random.Read(bytes)
		hold(t, string(bytes))
		for i := range bytes {
			bytes[i] &= 0x7f
		}
		hold(t, "test a { "+string(bytes))
	}
}

func Test3_4GreatTexts(t *testing.T) {
	for _, piece := range []string{"thread { } ", "{ ", "x = 1 ; ", "fence ; ", "x", "1", "-", "# ", "\n", "\x00", "x=1&", "x=1|"} {
		for _, head := range []string{"", "test a { ", "test a { init { ", "test a { thread { ", "test a { exists "} {
			s := head + strings.Repeat(piece, 2*api.MaxText)
			hold(t, s[:api.MaxText])
			holdError(t, s[:api.MaxText+1], api.ErrLong, api.MaxText)
			holdError(t, s, api.ErrLong, api.MaxText)
		}
	}
}
