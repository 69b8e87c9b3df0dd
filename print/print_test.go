package print

import (
	"fmt"
	"math"
	"math/rand"
	"reflect"
	"strconv"
	"strings"
	"testing"

	"jacquard/api"
	"jacquard/parse"
)

func reg(n int) api.Operand     { return api.Operand{Reg: n} }
func value(n int64) api.Operand { return api.Operand{Reg: -1, Value: n} }

func inThread(ins ...api.Ins) api.Test {
	return api.Test{Name: "a", Threads: [][]api.Ins{ins}}
}

func asked(kind int, rows ...[]api.Atom) api.Test {
	return api.Test{Name: "a", Cond: api.Cond{Kind: kind, Any: rows}}
}

// tell is a test as a text in which nil and an empty list are the same.
func tell(t api.Test) string { return fmt.Sprintf("%q %v", t.Name, t) }

// The rough writers write whatever a tree holds, and ask nothing of it.
func roughOperand(o api.Operand) string {
	if o.Reg == -1 {
		return fmt.Sprint(o.Value)
	}
	return fmt.Sprintf("r%d", o.Reg)
}

func roughIns(i api.Ins) string {
	a, b := roughOperand(i.A), roughOperand(i.B)
	switch i.Kind {
	case 1:
		return fmt.Sprintf("store %c %s ;", i.Loc, a)
	case 2:
		return fmt.Sprintf("r%d = load %c ;", i.Reg, i.Loc)
	case 3:
		return "fence ;"
	case 4:
		return fmt.Sprintf("r%d = cas %c %s %s ;", i.Reg, i.Loc, a, b)
	case 5:
		if i.Op == 0 {
			return fmt.Sprintf("r%d = %s ;", i.Reg, a)
		}
		signs := strings.Fields("+ - * & | ^ << >> == != <")
		if i.Op < 0 || i.Op > len(signs) {
			return "!"
		}
		return fmt.Sprintf("r%d = %s %s %s ;", i.Reg, a, signs[i.Op-1], b)
	case 6:
		return fmt.Sprintf("skip %d if %s == %s ;", i.N, a, b)
	}
	return "!"
}

func roughAtom(a api.Atom) string {
	if a.Thread == -1 {
		return fmt.Sprintf("%c = %d", a.Loc, a.Value)
	}
	return fmt.Sprintf("%d : r%d = %d", a.Thread, a.Reg, a.Value)
}

func roughCond(c api.Cond) string {
	words := map[int]string{1: "exists", 2: "forall"}
	if c.Kind == 0 {
		return ""
	}
	var rows []string
	for _, row := range c.Any {
		var atoms []string
		for _, atom := range row {
			atoms = append(atoms, roughAtom(atom))
		}
		rows = append(rows, strings.Join(atoms, " & "))
	}
	return words[c.Kind] + " " + strings.Join(rows, " | ") + " ;"
}

func roughTest(t api.Test) string {
	out := fmt.Sprintf("test %s {\n", t.Name)
	if len(t.Init) > 0 {
		out += "init {\n"
		for _, i := range t.Init {
			out += fmt.Sprintf("%c = %d ;\n", i.Loc, i.Value)
		}
		out += "}\n"
	}
	for _, thread := range t.Threads {
		out += "thread {\n"
		for _, i := range thread {
			out += roughIns(i) + "\n"
		}
		out += "}\n"
	}
	if t.Cond.Kind != 0 {
		out += roughCond(t.Cond) + "\n"
	}
	return out + "}\n"
}

// hold asks what t is of Parse: t is a tree just if it comes back from its
// rough text, as no text at all has another one as its tree.
func hold(t *testing.T, test api.Test) bool {
	t.Helper()
	rough, before := roughTest(test), tell(test)
	back, err := parse.Parse(rough)
	want := err == api.Err{} && tell(back) == before
	if Ok(test) != want {
		t.Fatalf("%v: Ok is %v (%v)", before, !want, err)
	}
	if !want {
		rough = ""
	}
	if got := Test(test); got != rough {
		t.Fatalf("%v: %q, not %q", before, got, rough)
	}
	if want && (!Same(test, back) || !Same(back, test)) {
		t.Fatalf("%v is not the Same as what comes back", before)
	}
	if tell(test) != before {
		t.Fatalf("%v was changed", before)
	}
	return want
}

// holdText holds what was got of a part against its rough text, if the test
// that the part stands in is a tree.
func holdText(t *testing.T, test api.Test, got, rough string) bool {
	t.Helper()
	ok := hold(t, test)
	if !ok {
		rough = ""
	}
	if got != rough {
		t.Fatalf("%v: %q, not %q", tell(test), got, rough)
	}
	return ok
}

func holdIns(t *testing.T, ins api.Ins) bool {
	t.Helper()
	return holdText(t, inThread(ins), Ins(ins), roughIns(ins))
}

func holdCond(t *testing.T, cond api.Cond) bool {
	t.Helper()
	return holdText(t, api.Test{Name: "a", Cond: cond}, Cond(cond), roughCond(cond))
}

func TestExample(t *testing.T) {
	if got := Ins(api.Ins{Kind: api.ILoad, Reg: 1, Loc: 'x'}); got != "r1 = load x ;" {
		t.Errorf("%q", got)
	}
}

func Test4_1Instructions(t *testing.T) {
	for want, ins := range map[string]api.Ins{
		"store x 1 ;":                            {Kind: 1, Loc: 'x', A: value(1)},
		"store a r0 ;":                           {Kind: 1, Loc: 'a', A: reg(0)},
		"store r -7 ;":                           {Kind: 1, Loc: 'r', A: value(-7)},
		"r0 = load z ;":                          {Kind: 2, Loc: 'z'},
		"r3 = load a ;":                          {Kind: 2, Reg: 3, Loc: 'a'},
		"fence ;":                                {Kind: 3},
		"r1 = cas y 0 r2 ;":                      {Kind: 4, Reg: 1, Loc: 'y', A: value(0), B: reg(2)},
		"r2 = cas y r0 -1 ;":                     {Kind: 4, Reg: 2, Loc: 'y', A: reg(0), B: value(-1)},
		"r0 = cas y r1 r3 ;":                     {Kind: 4, Loc: 'y', A: reg(1), B: reg(3)},
		"r0 = cas y 10 20 ;":                     {Kind: 4, Loc: 'y', A: value(10), B: value(20)},
		"r1 = 5 ;":                               {Kind: 5, Reg: 1, A: value(5), B: value(0)},
		"r1 = r2 ;":                              {Kind: 5, Reg: 1, A: reg(2), B: value(0)},
		"r1 = r2 + 0 ;":                          {Kind: 5, Reg: 1, A: reg(2), Op: api.OAdd, B: value(0)},
		"r0 = 1 - -1 ;":                          {Kind: 5, A: value(1), Op: api.OSub, B: value(-1)},
		"skip 3 if r0 == 1 ;":                    {Kind: 6, N: 3, A: reg(0), B: value(1)},
		"skip 0 if -1 == r3 ;":                   {Kind: 6, A: value(-1), B: reg(3)},
		"skip 10 if r1 == r2 ;":                  {Kind: 6, N: 10, A: reg(1), B: reg(2)},
		"skip 9223372036854775807 if 0 == 100 ;": {Kind: 6, N: math.MaxInt64, A: value(0), B: value(100)},
		"store x -9223372036854775808 ;":         {Kind: 1, Loc: 'x', A: value(math.MinInt64)},
		"store x 9223372036854775807 ;":          {Kind: 1, Loc: 'x', A: value(math.MaxInt64)},
	} {
		if got := Ins(ins); got != want {
			t.Errorf("%v: %q, not %q", ins, got, want)
		}
		if got := Test(inThread(ins, api.Ins{Kind: 3})); got != "test a {\nthread {\n"+want+"\nfence ;\n}\n}\n" {
			t.Errorf("%v: %q", ins, got)
		}
	}
}

func Test4_1EverySign(t *testing.T) {
	for i, sign := range strings.Fields("+ - * & | ^ << >> == != <") {
		for text, b := range map[string]api.Operand{"7": value(7), "-1": value(-1), "r3": reg(3)} {
			ins := api.Ins{Kind: api.ISet, Reg: 2, A: reg(1), Op: i + 1, B: b}
			if got, want := Ins(ins), "r2 = r1 "+sign+" "+text+" ;"; got != want {
				t.Errorf("%q, not %q", got, want)
			}
		}
	}
}

func Test4_1Parts(t *testing.T) {
	a, x := api.Ins{Kind: 3}, api.Init{Loc: 'x', Value: -5}
	for want, test := range map[string]api.Test{
		"test a {\n}\n":                         {Name: "a"},
		"test b {\n}\n":                         {Name: "b", Init: []api.Init{}, Threads: [][]api.Ins{}, Cond: api.Cond{Any: [][]api.Atom{}}},
		"test ab12 {\ninit {\nx = -5 ;\n}\n}\n": {Name: "ab12", Init: []api.Init{x}},
		"test a {\ninit {\nx = -5 ;\nx = 0 ;\n}\nthread {\n}\n}\n":                    {Name: "a", Init: []api.Init{x, {Loc: 'x'}}, Threads: [][]api.Ins{nil}},
		"test thread {\nthread {\n}\nthread {\nfence ;\nfence ;\n}\nthread {\n}\n}\n": {Name: "thread", Threads: [][]api.Ins{{}, {a, a}, nil}},
		"test a {\nthread {\nfence ;\n}\nexists 0 : r0 = 0 ;\n}\n":                    {Name: "a", Threads: [][]api.Ins{{a}}, Cond: api.Cond{Kind: 1, Any: [][]api.Atom{{{}}}}},
		"test a {\ninit {\nx = -5 ;\n}\nforall x = -1 & 9 : r3 = 20 | a = 0 ;\n}\n":   {Name: "a", Init: []api.Init{x}, Cond: api.Cond{Kind: 2, Any: [][]api.Atom{{{Thread: -1, Loc: 'x', Value: -1}, {Thread: 9, Reg: 3, Value: 20}}, {{Thread: -1, Loc: 'a'}}}}},
	} {
		if got := Test(test); got != want || !Ok(test) {
			t.Errorf("%q, not %q", got, want)
		}
		hold(t, test)
	}
}

func Test4_1Conditions(t *testing.T) {
	x, y := api.Atom{Thread: -1, Loc: 'x', Value: 1}, api.Atom{Thread: -1, Loc: 'y', Value: -2}
	first, last := api.Atom{Thread: 0, Reg: 3, Value: 5}, api.Atom{Thread: 9, Reg: 0, Value: 0}
	for want, rows := range map[string][][]api.Atom{
		"x = 1 ;":          {{x}},
		"0 : r3 = 5 ;":     {{first}},
		"9 : r0 = 0 ;":     {{last}},
		"x = 1 & y = -2 ;": {{x, y}},
		"x = 1 | y = -2 ;": {{x}, {y}},
		"x = 1 & x = 1 | x = 1 | 0 : r3 = 5 & y = -2 & 9 : r0 = 0 ;": {{x, x}, {x}, {first, y, last}},
		"x = -9223372036854775808 | x = 9223372036854775807 ;":       {{{Thread: -1, Loc: 'x', Value: math.MinInt64}}, {{Thread: -1, Loc: 'x', Value: math.MaxInt64}}},
	} {
		for kind, word := range []string{1: "exists ", 2: "forall "} {
			if kind == 0 {
				continue
			}
			if got := Cond(api.Cond{Kind: kind, Any: rows}); got != word+want {
				t.Errorf("%q, not %q", got, word+want)
			}
			if got := Test(asked(kind, rows...)); got != "test a {\n"+word+want+"\n}\n" {
				t.Errorf("%q", got)
			}
		}
	}
	if got := Cond(api.Cond{}) + Cond(api.Cond{Any: [][]api.Atom{}}); got != "" {
		t.Errorf("no condition: %q", got)
	}
}

func Test4_1Numbers(t *testing.T) {
	numbers := []int64{math.MinInt64, math.MinInt64 + 1, math.MaxInt64, math.MaxInt64 - 1, math.MinInt32, math.MaxUint32}
	for n := int64(-1100); n <= 1100; n++ {
		numbers = append(numbers, n)
	}
	for ten := int64(10); ten > 0 && ten <= math.MaxInt64/10; ten *= 10 {
		numbers = append(numbers, ten-1, ten, ten+1, 1-ten, -ten, -ten-1)
	}
	random := rand.New(rand.NewSource(1))
	for range 20000 {
		numbers = append(numbers, int64(random.Uint64())>>random.Intn(64))
	}
	for _, n := range numbers {
		if got, want := Ins(api.Ins{Kind: 1, Loc: 'x', A: value(n)}), "store x "+strconv.FormatInt(n, 10)+" ;"; got != want {
			t.Fatalf("%q, not %q", got, want)
		}
	}
}

// Each field of each kind of instruction is set to what lies within its bounds,
// at them, and beyond them, in every way that the others are set.
func Test4_1InstructionsOfAllShapes(t *testing.T) {
	operands := []api.Operand{{}, value(0), value(1), reg(3), reg(4), {Reg: -2}, {Reg: 1, Value: 2}}
	found := 0
	for kind := -1; kind <= 7; kind++ {
		for _, r := range []int{0, 3, 4, -1} {
			for _, loc := range []int{0, 'a', 'z', 'A', 'a' + 256} {
				for _, a := range operands {
					for _, op := range []int{0, 1, 11, 12, -1} {
						for _, b := range operands {
							for _, n := range []int{0, 1, math.MaxInt, -1} {
								if holdIns(t, api.Ins{Kind: kind, Reg: r, Loc: loc, A: a, Op: op, B: b, N: n}) {
									found++
								}
							}
						}
					}
				}
			}
		}
	}
	// Of two registers, two locations, four operands, two signs, three numbers.
	if want := 2*4 + 2*2 + 1 + 2*2*4*4 + 2*4*(1+2*4) + 4*4*3; found != want {
		t.Errorf("%d are Ok, not %d", found, want)
	}
}

func Test4_1AtomsOfAllShapes(t *testing.T) {
	found := 0
	for _, thread := range []int{-2, -1, 0, 1, 8, 9, 10, 256, math.MinInt, math.MaxInt} {
		for _, r := range []int{-1, 0, 1, 2, 3, 4, 256, math.MinInt, math.MaxInt} {
			for _, loc := range []int{-1, 0, 'a' - 1, 'a', 'm', 'z', 'z' + 1, 'A', '0', 'a' + 256, math.MaxInt} {
				for _, v := range []int64{0, 1, -1, math.MinInt64, math.MaxInt64} {
					atom := api.Atom{Thread: thread, Reg: r, Loc: loc, Value: v}
					good := api.Atom{Thread: -1, Loc: 'b', Value: 2}
					ok := holdCond(t, api.Cond{Kind: 1, Any: [][]api.Atom{{atom}}})
					for _, rows := range [][][]api.Atom{{{good}, {atom}}, {{atom}, {good}}, {{good, atom}}, {{atom, good}}} {
						if holdCond(t, api.Cond{Kind: 2, Any: rows}) != ok {
							t.Fatal(rows)
						}
					}
					if ok {
						found++
					}
				}
			}
		}
	}
	if want := 3*5 + 4*4*5; found != want {
		t.Errorf("%d are Ok, not %d", found, want)
	}
}

func Test4_1Locations(t *testing.T) {
	for loc := -300; loc <= 600; loc++ {
		want := loc >= 97 && loc <= 122
		for _, test := range []api.Test{
			{Name: "a", Init: []api.Init{{Loc: loc}}},
			{Name: "a", Init: []api.Init{{Loc: 'a'}, {Loc: loc, Value: 1}}},
			{Name: "a", Init: []api.Init{{Loc: loc, Value: 1}, {Loc: 'a'}}},
			inThread(api.Ins{Kind: api.IStore, Loc: loc, A: value(1)}),
			inThread(api.Ins{Kind: api.ILoad, Loc: loc}),
			inThread(api.Ins{Kind: api.ICas, Loc: loc, A: value(1), B: value(2)}),
			asked(api.CExists, []api.Atom{{Thread: -1, Loc: loc}}),
		} {
			if hold(t, test) != want {
				t.Fatal(loc, test)
			}
		}
	}
}

func Test4_1Words(t *testing.T) {
	for _, name := range strings.Fields("a z a0 z9 a1b2 test init thread exists forall store load fence cas skip if r0 r4 x99999999999999999999") {
		if !Ok(api.Test{Name: name}) || Test(api.Test{Name: name}) != "test "+name+" {\n}\n" {
			t.Error(name)
		}
	}
	for _, name := range []string{"", " ", "a ", " a", "a b", "0", "1a", "-1", "A", "aA", "a_", "_a", "a-b", "é", "aé", "a\x00", "a\xff", "{", "a{", "a;", "a\n", "a#", "a\t", "ａ"} {
		if Ok(api.Test{Name: name}) || Test(api.Test{Name: name}) != "" {
			t.Errorf("%q", name)
		}
	}
	for first := range 256 {
		hold(t, api.Test{Name: string([]byte{byte(first)})})
		for second := range 256 {
			hold(t, api.Test{Name: string([]byte{byte(first), byte(second)})})
		}
	}
}

func Test4_1WrongFields(t *testing.T) {
	x := api.Ins{Kind: api.IStore, Loc: 'x', A: value(1)}
	for i, wrong := range []api.Ins{
		{}, {Kind: -1}, {Kind: 7}, {Kind: math.MinInt}, {Kind: math.MaxInt}, {Kind: 3 + 1<<32},
		{Kind: 1, A: value(1)}, {Kind: 1, Loc: 'x'<<8 | 'x', A: value(1)}, {Kind: 1, Loc: 'x', A: reg(4)}, {Kind: 1, Loc: 'x', A: reg(-2)}, {Kind: 1, Loc: 'x', A: api.Operand{Reg: 1, Value: 1}},
		{Kind: 1, Reg: 1, Loc: 'x', A: value(1)}, {Kind: 1, Loc: 'x', A: value(1), Op: 1}, {Kind: 1, Loc: 'x', A: value(1), B: value(0)}, {Kind: 1, Loc: 'x', A: value(1), B: api.Operand{Value: 1}}, {Kind: 1, Loc: 'x', A: value(1), B: reg(1)}, {Kind: 1, Loc: 'x', A: value(1), N: 1},
		{Kind: 2}, {Kind: 2, Loc: 'x', Reg: 4}, {Kind: 2, Loc: 'x', Reg: -1}, {Kind: 2, Loc: 'x', A: value(0)}, {Kind: 2, Loc: 'x', A: api.Operand{Value: 1}}, {Kind: 2, Loc: 'x', Op: 1}, {Kind: 2, Loc: 'x', B: value(0)}, {Kind: 2, Loc: 'x', N: 1},
		{Kind: 3, Reg: 1}, {Kind: 3, Loc: 'x'}, {Kind: 3, A: value(0)}, {Kind: 3, Op: 1}, {Kind: 3, B: value(0)}, {Kind: 3, N: 1}, {Kind: 3, N: -1},
		{Kind: 4, A: value(1), B: value(1)}, {Kind: 4, Loc: 'x', Reg: 4, A: value(1), B: value(1)}, {Kind: 4, Loc: 'x', A: reg(4), B: value(1)}, {Kind: 4, Loc: 'x', A: value(1), B: reg(4)}, {Kind: 4, Loc: 'x', A: value(1), B: value(1), Op: 9}, {Kind: 4, Loc: 'x', A: value(1), B: value(1), N: 1},
		{Kind: 5, A: value(1)}, {Kind: 5, A: value(1), B: value(1)}, {Kind: 5, A: value(1), B: reg(1)}, {Kind: 5, A: value(1), Op: 12, B: value(0)}, {Kind: 5, A: value(1), Op: 12}, {Kind: 5, A: value(1), Op: -1, B: value(0)}, {Kind: 5, Reg: 4, A: value(1), B: value(0)}, {Kind: 5, A: reg(4), B: value(0)}, {Kind: 5, A: value(1), Op: 1, B: reg(4)}, {Kind: 5, Loc: 'x', A: value(1), B: value(0)}, {Kind: 5, A: value(1), B: value(0), N: 1},
		{Kind: 6, N: -1, A: value(1), B: value(1)}, {Kind: 6, N: math.MinInt, A: value(1), B: value(1)}, {Kind: 6, A: reg(4), B: value(1)}, {Kind: 6, A: value(1), B: reg(-2)}, {Kind: 6, Reg: 1, A: value(1), B: value(1)}, {Kind: 6, Loc: 'x', A: value(1), B: value(1)}, {Kind: 6, Op: api.OEq, A: value(1), B: value(1)},
	} {
		if got := Ins(wrong); got != "" {
			t.Errorf("%d: %q", i, got)
		}
		for _, threads := range [][][]api.Ins{{{wrong}}, {{wrong, x}}, {{x, wrong}}, {{wrong}, {x}}, {{x}, nil, {wrong}}} {
			test := api.Test{Name: "a", Threads: threads}
			if Ok(test) || Test(test) != "" {
				t.Errorf("%d: %v", i, test)
			}
		}
	}
}

func Test4_1WrongConditions(t *testing.T) {
	good := []api.Atom{{Thread: -1, Loc: 'x'}}
	for i, wrong := range []api.Cond{
		{Any: [][]api.Atom{good}}, {Any: [][]api.Atom{nil}}, {Any: [][]api.Atom{{}}},
		{Kind: 1}, {Kind: 2}, {Kind: 1, Any: [][]api.Atom{}},
		{Kind: 1, Any: [][]api.Atom{nil}}, {Kind: 2, Any: [][]api.Atom{{}}}, {Kind: 1, Any: [][]api.Atom{good, {}}}, {Kind: 1, Any: [][]api.Atom{{}, good}}, {Kind: 2, Any: [][]api.Atom{good, nil, good}},
		{Kind: 3}, {Kind: -1}, {Kind: 3, Any: [][]api.Atom{good}}, {Kind: -1, Any: [][]api.Atom{good}}, {Kind: math.MaxInt, Any: [][]api.Atom{good}},
	} {
		test := api.Test{Name: "a", Cond: wrong}
		if Ok(test) || Test(test) != "" || Cond(wrong) != "" {
			t.Errorf("%d: %v %q", i, wrong, Cond(wrong))
		}
	}
}

const whole = "test ab1 {\ninit {\nx = -5 ;\ny = 7 ;\n}\nthread {\nstore x 1 ;\nr0 = load y ;\nfence ;\nr3 = cas x r0 -2 ;\nr1 = r2 ;\nr1 = 5 << r0 ;\nskip 2 if r0 == 1 ;\n}\nthread {\n}\nforall 0 : r1 = 4 & x = 3 | y = -1 ;\n}\n"

func parsed(t *testing.T) api.Test {
	t.Helper()
	test, err := parse.Parse(whole)
	if err.Code != api.OK {
		t.Fatal(err)
	}
	return test
}

// fields goes through each whole number and text of a value, however deep.
func fields(v reflect.Value, see func(reflect.Value)) {
	switch v.Kind() {
	case reflect.Struct:
		for i := range v.NumField() {
			fields(v.Field(i), see)
		}
	case reflect.Slice:
		for i := range v.Len() {
			fields(v.Index(i), see)
		}
	default:
		see(v)
	}
}

// lists goes through each list of a value, however deep.
func lists(v reflect.Value, see func(reflect.Value)) {
	switch v.Kind() {
	case reflect.Struct:
		for i := range v.NumField() {
			lists(v.Field(i), see)
		}
	case reflect.Slice:
		see(v)
		for i := range v.Len() {
			lists(v.Index(i), see)
		}
	}
}

func holdSame(t *testing.T, a, b api.Test, want bool) {
	t.Helper()
	if Same(a, b) != want || Same(b, a) != want {
		t.Fatalf("Same is not %v of\n%v\n%v", want, tell(a), tell(b))
	}
}

func Test4_1SameEachField(t *testing.T) {
	a, b := parsed(t), parsed(t)
	holdSame(t, a, a, true)
	holdSame(t, a, b, true)
	seen := 0
	fields(reflect.ValueOf(&b).Elem(), func(v reflect.Value) {
		seen++
		if v.Kind() == reflect.String {
			old := v.String()
			for _, other := range []string{"", "x", old + "x", old[1:]} {
				v.SetString(other)
				holdSame(t, a, b, false)
			}
			v.SetString(old)
			return
		}
		old := v.Int()
		for _, other := range []int64{old + 1, old - 1, ^old, old ^ 1<<40, old ^ math.MinInt64} {
			v.SetInt(other)
			holdSame(t, a, b, false)
		}
		v.SetInt(old)
		holdSame(t, a, b, true)
	})
	if want := 1 + 2*2 + 7*9 + 1 + 3*4; seen != want {
		t.Errorf("%d fields, not %d", seen, want)
	}
}

func Test4_1SameEachList(t *testing.T) {
	a, b := parsed(t), parsed(t)
	lists(reflect.ValueOf(&b).Elem(), func(v reflect.Value) {
		old := reflect.ValueOf(v.Interface())
		if n := old.Len(); n > 0 {
			v.Set(old.Slice(0, n-1))
			holdSame(t, a, b, false)
			v.Set(old.Slice(1, n))
			holdSame(t, a, b, false)
		}
		v.Set(reflect.Append(old.Slice3(0, old.Len(), old.Len()), reflect.Zero(v.Type().Elem())))
		holdSame(t, a, b, false)
		v.Set(old)
		holdSame(t, a, b, true)
	})
	b.Threads[0], b.Threads[1] = b.Threads[1], b.Threads[0]
	holdSame(t, a, b, false)
}

func Test4_1SameNilAndEmpty(t *testing.T) {
	none := api.Test{Threads: [][]api.Ins{nil}, Cond: api.Cond{Kind: 7, Any: [][]api.Atom{nil}}}
	empty := api.Test{Init: []api.Init{}, Threads: [][]api.Ins{{}}, Cond: api.Cond{Kind: 7, Any: [][]api.Atom{{}}}}
	holdSame(t, none, empty, true)
	holdSame(t, api.Test{}, api.Test{Init: []api.Init{}, Threads: [][]api.Ins{}, Cond: api.Cond{Any: [][]api.Atom{}}}, true)
	holdSame(t, none, api.Test{}, false)
	holdSame(t, api.Test{Threads: [][]api.Ins{nil}}, api.Test{}, false)
	holdSame(t, api.Test{Cond: api.Cond{Any: [][]api.Atom{nil}}}, api.Test{}, false)
}

func Test4_2ThereAndBack(t *testing.T) {
	test := parsed(t)
	if got := Test(test); got != whole {
		t.Errorf("%q", got)
	}
	hold(t, test)
	// However a text is laid out, what is printed of it is one text.
	again, _ := parse.Parse(strings.ReplaceAll(strings.ReplaceAll(whole, "\n", " # {\n\t"), "init {", " init   {"))
	if Test(again) != whole {
		t.Errorf("%q", Test(again))
	}
	nothing, err := parse.Parse("test a { init { } thread { } }")
	if got := Test(nothing); err.Code != api.OK || got != "test a {\nthread {\n}\n}\n" {
		t.Errorf("%q", got)
	}
}

// maker makes trees; now and then, if it is bad, one that is none.
type maker struct {
	random *rand.Rand
	bad    bool
}

func (m *maker) within(low, high int) int {
	if m.bad && m.random.Intn(40) == 0 {
		return []int{low - 1, high + 1, 0, -1, math.MinInt, math.MaxInt, low + 256}[m.random.Intn(7)]
	}
	return low + m.random.Intn(high-low+1)
}

func (m *maker) number() int64 { return int64(m.random.Uint64()) >> m.random.Intn(64) }

func (m *maker) operand() api.Operand {
	if m.random.Intn(2) == 0 {
		return value(m.number())
	}
	return reg(m.within(0, 3))
}

func (m *maker) ins() api.Ins {
	i := api.Ins{Kind: m.within(1, 6)}
	switch i.Kind {
	case 1:
		i.Loc, i.A = m.within('a', 'z'), m.operand()
	case 2:
		i.Reg, i.Loc = m.within(0, 3), m.within('a', 'z')
	case 4:
		i.Reg, i.Loc, i.A, i.B = m.within(0, 3), m.within('a', 'z'), m.operand(), m.operand()
	case 5:
		i.Reg, i.A, i.Op, i.B = m.within(0, 3), m.operand(), m.within(0, 11), m.operand()
		if i.Op == 0 {
			i.B = value(0)
		}
	case 6:
		i.N, i.A, i.B = m.within(0, 12), m.operand(), m.operand()
	}
	if m.bad {
		fields(reflect.ValueOf(&i).Elem(), func(v reflect.Value) {
			if m.random.Intn(200) == 0 {
				v.SetInt(m.number())
			}
		})
	}
	return i
}

func (m *maker) atom() api.Atom {
	if m.random.Intn(2) == 0 {
		return api.Atom{Thread: -1, Loc: m.within('a', 'z'), Value: m.number()}
	}
	return api.Atom{Thread: m.within(0, 9), Reg: m.within(0, 3), Value: m.number()}
}

func (m *maker) cond() api.Cond {
	c := api.Cond{Kind: m.within(0, 2)}
	if c.Kind == 0 && !(m.bad && m.random.Intn(10) == 0) {
		return c
	}
	for range max(0, m.within(1, 3)) % 9 {
		var row []api.Atom
		for range max(0, m.within(1, 3)) % 9 {
			row = append(row, m.atom())
		}
		c.Any = append(c.Any, row)
	}
	return c
}

func (m *maker) test() api.Test {
	test := api.Test{Name: []string{"a", "store", "r1", "x9"}[m.random.Intn(4)]}
	for range m.random.Intn(4) {
		test.Init = append(test.Init, api.Init{Loc: m.within('a', 'z'), Value: m.number()})
	}
	for range m.random.Intn(4) {
		var thread []api.Ins
		for range m.random.Intn(5) {
			thread = append(thread, m.ins())
		}
		test.Threads = append(test.Threads, thread)
	}
	test.Cond = m.cond()
	return test
}

func Test4_2TreesOfAllShapes(t *testing.T) {
	m := &maker{random: rand.New(rand.NewSource(2))}
	for range 10000 {
		if test := m.test(); !hold(t, test) {
			t.Fatal(tell(test))
		}
	}
	m.bad = true
	found := map[bool]int{}
	for range 10000 {
		found[hold(t, m.test())]++
	}
	if found[true] < 1000 || found[false] < 1000 {
		t.Error(found)
	}
}

func Test4_2WhatIsPrintedIsNewMemory(t *testing.T) {
	test := parsed(t)
	text, ins, cond := Test(test), Ins(test.Threads[0][3]), Cond(test.Cond)
	fields(reflect.ValueOf(&test).Elem(), func(v reflect.Value) {
		if v.Kind() != reflect.String {
			v.SetInt(-7)
		}
	})
	if text != whole || ins != "r3 = cas x r0 -2 ;" || cond != "forall 0 : r1 = 4 & x = 3 | y = -1 ;" {
		t.Error(text, ins, cond)
	}
}

func Test4_2SpareRoomStaysAsItIs(t *testing.T) {
	atoms := []api.Atom{{Thread: -1, Loc: 'x'}, {Reg: 9}}
	ins := []api.Ins{{Kind: 3}, {Kind: 9}}
	inits := []api.Init{{Loc: 'x'}, {Loc: 9}}
	threads, rows := [][]api.Ins{ins[:1], ins}, [][]api.Atom{atoms[:1], atoms}
	test := api.Test{Name: "a", Init: inits[:1], Threads: threads[:1], Cond: api.Cond{Kind: 1, Any: rows[:1]}}
	before := fmt.Sprint(atoms, ins, inits, threads, rows)
	if !hold(t, test) || !Same(test, test) || Cond(test.Cond) == "" {
		t.Error(tell(test))
	}
	if after := fmt.Sprint(atoms, ins, inits, threads, rows); after != before {
		t.Error(after)
	}
}

func Test4_3AnyTrees(t *testing.T) {
	random := rand.New(rand.NewSource(3))
	any := func() int64 {
		return []int64{0, 1, -1, 2, 'a', math.MinInt64, math.MaxInt64, int64(random.Uint64()) >> random.Intn(64)}[random.Intn(8)]
	}
	for range 20000 {
		test := api.Test{
			Name:    []string{"", "a", "\xff", strings.Repeat("é", 3)}[random.Intn(4)],
			Init:    make([]api.Init, random.Intn(2)),
			Threads: [][]api.Ins{nil, make([]api.Ins, random.Intn(2))},
			Cond:    api.Cond{Any: [][]api.Atom{make([]api.Atom, random.Intn(2))}},
		}
		fields(reflect.ValueOf(&test).Elem(), func(v reflect.Value) {
			if v.Kind() != reflect.String {
				v.SetInt(any())
			}
		})
		hold(t, test)
		for _, i := range test.Threads[1] {
			holdIns(t, i)
		}
		holdCond(t, test.Cond)
		holdSame(t, test, test, true)
		holdSame(t, test, api.Test{}, false)
	}
}

// No limit of other layers is asked here: what is a tree but for its length is Ok.
func Test4_3GreatTrees(t *testing.T) {
	thread := make([]api.Ins, 5000)
	for i := range thread {
		thread[i] = api.Ins{Kind: api.IFence}
	}
	test := api.Test{Name: strings.Repeat("a", 100000), Threads: [][]api.Ins{thread, thread}}
	want := "test " + test.Name + " {\n" + strings.Repeat("thread {\n"+strings.Repeat("fence ;\n", 5000)+"}\n", 2) + "}\n"
	if Test(test) != want || !Ok(test) || !Same(test, test) {
		t.Error(len(Test(test)), len(want))
	}
	test.Threads[1] = append(thread[:4999:4999], api.Ins{})
	if Test(test) != "" || Ok(test) {
		t.Error("the last instruction is none")
	}
	row := make([]api.Atom, 3000)
	wide := api.Test{Name: "a", Threads: make([][]api.Ins, 3000), Cond: api.Cond{Kind: api.CExists, Any: [][]api.Atom{row, row}}}
	for range 3000 {
		wide.Init = append(wide.Init, api.Init{Loc: 'x'})
	}
	if got, want := Test(wide), roughTest(wide); got != want || !Ok(wide) || !Same(wide, wide) {
		t.Error(len(got), len(want))
	}
}
