package num

import (
	"math"
	"math/big"
	"strings"
	"testing"

	"jacquard/api"
)

// Numbers around all the places where something could turn over.
func edges() []int64 {
	l := []int64{0, 1, 2, 3, 5, 6, 7, 9, 10, 42, 99, 100, 101, 12345678901234567,
		math.MaxInt64, math.MaxInt64 - 1, math.MinInt64, math.MinInt64 + 1,
		0x5555555555555555, 0x123456789abcdef}
	for k := 2; k < 63; k++ {
		p := int64(1) << k
		l = append(l, p-1, p, p+1)
	}
	for i := len(l) - 1; i >= 0; i-- {
		l = append(l, -l[i])
	}
	return l
}

func strangeOps() []int {
	return []int{0, -1, -2, 12, 13, 63, 64, 255, 256 + 1, 1 << 32, 1<<32 + 1, math.MaxInt, math.MinInt}
}

// wrapped is n modulo 2^64, as int64, reckoned without wrapping.
func wrapped(n *big.Int) int64 {
	two64 := new(big.Int).Lsh(big.NewInt(1), 64)
	m := new(big.Int).Mod(n, two64)
	if m.Bit(63) == 1 {
		m.Sub(m, two64)
	}
	return m.Int64()
}

// wanted reckons a op b with numbers that have no bounds.
func wanted(op int, a, b int64) int64 {
	x, y, z := big.NewInt(a), big.NewInt(b), new(big.Int)
	by := uint(new(big.Int).Mod(y, big.NewInt(64)).Uint64())
	yes := false
	switch op {
	case api.OAdd:
		return wrapped(z.Add(x, y))
	case api.OSub:
		return wrapped(z.Sub(x, y))
	case api.OMul:
		return wrapped(z.Mul(x, y))
	case api.OAnd:
		return wrapped(z.And(x, y))
	case api.OOr:
		return wrapped(z.Or(x, y))
	case api.OXor:
		return wrapped(z.Xor(x, y))
	case api.OShl:
		return wrapped(z.Lsh(x, by))
	case api.OShr:
		return wrapped(z.Rsh(x, by))
	case api.OEq:
		yes = x.Cmp(y) == 0
	case api.ONe:
		yes = x.Cmp(y) != 0
	case api.OLess:
		yes = x.Cmp(y) < 0
	}
	if yes {
		return 1
	}
	return 0
}

func Test1_1DoTold(t *testing.T) {
	for _, x := range []struct {
		op         int
		a, b, want int64
	}{
		{api.OAdd, 2, 3, 5}, {api.OAdd, math.MaxInt64, 1, math.MinInt64}, {api.OAdd, math.MinInt64, math.MinInt64, 0},
		{api.OSub, 2, 3, -1}, {api.OSub, math.MinInt64, 1, math.MaxInt64}, {api.OSub, 0, math.MinInt64, math.MinInt64},
		{api.OMul, 7, 6, 42}, {api.OMul, math.MaxInt64, 2, -2}, {api.OMul, math.MinInt64, -1, math.MinInt64}, {api.OMul, 1 << 32, 1 << 32, 0},
		{api.OAnd, 12, 10, 8}, {api.OAnd, -1, math.MinInt64, math.MinInt64},
		{api.OOr, 12, 10, 14}, {api.OOr, math.MinInt64, math.MaxInt64, -1},
		{api.OXor, 12, 10, 6}, {api.OXor, -1, math.MaxInt64, math.MinInt64},
		{api.OShl, 3, 2, 12}, {api.OShl, 1, 63, math.MinInt64}, {api.OShl, 1, 64, 1}, {api.OShl, 1, 65, 2}, {api.OShl, 3, 128, 3},
		{api.OShl, 1, -1, math.MinInt64}, {api.OShl, 1, -63, 2}, {api.OShl, 5, -64, 5}, {api.OShl, 5, math.MinInt64, 5}, {api.OShl, 3, math.MaxInt64, math.MinInt64},
		{api.OShr, 12, 2, 3}, {api.OShr, -8, 1, -4}, {api.OShr, -1, 63, -1}, {api.OShr, -5, 64, -5}, {api.OShr, -8, 65, -4}, {api.OShr, math.MinInt64, 63, -1},
		{api.OShr, math.MaxInt64, 63, 0}, {api.OShr, math.MinInt64, -1, -1}, {api.OShr, 4, -63, 2}, {api.OShr, -9, math.MinInt64, -9},
		{api.OEq, 4, 4, 1}, {api.OEq, 4, 5, 0}, {api.OEq, math.MinInt64, math.MaxInt64, 0},
		{api.ONe, 4, 4, 0}, {api.ONe, 4, 5, 1}, {api.ONe, math.MinInt64, math.MinInt64, 0},
		{api.OLess, 4, 5, 1}, {api.OLess, 5, 5, 0}, {api.OLess, 5, 4, 0}, {api.OLess, math.MinInt64, math.MaxInt64, 1}, {api.OLess, math.MaxInt64, math.MinInt64, 0},
	} {
		if n, ok := Do(x.op, x.a, x.b); n != x.want || !ok {
			t.Errorf("Do(%d, %d, %d) = %d, %v; want %d", x.op, x.a, x.b, n, ok, x.want)
		}
	}
}

func Test1_1DoReckoned(t *testing.T) {
	l := edges()
	for op := api.OAdd; op <= api.OLess; op++ {
		for _, a := range l {
			for _, b := range l {
				if n, ok := Do(op, a, b); n != wanted(op, a, b) || !ok {
					t.Fatalf("Do(%d, %d, %d) = %d, %v; want %d", op, a, b, n, ok, wanted(op, a, b))
				}
			}
		}
	}
}

func Test1_1DoOfAnotherOp(t *testing.T) {
	for _, op := range strangeOps() {
		for _, a := range []int64{0, 1, -1, math.MaxInt64, math.MinInt64} {
			if n, ok := Do(op, a, 3); n != 0 || ok {
				t.Errorf("Do(%d, %d, 3) = %d, %v", op, a, n, ok)
			}
		}
	}
}

func Test1_1SignAndOp(t *testing.T) {
	for _, x := range []struct {
		op   int
		sign string
	}{
		{1, "+"}, {2, "-"}, {3, "*"}, {4, "&"}, {5, "|"}, {6, "^"}, {7, "<<"}, {8, ">>"}, {9, "=="}, {10, "!="}, {11, "<"},
	} {
		if s := Sign(x.op); s != x.sign {
			t.Errorf("Sign(%d) = %q; want %q", x.op, s, x.sign)
		}
		if op, ok := Op(x.sign); op != x.op || !ok {
			t.Errorf("Op(%q) = %d, %v; want %d", x.sign, op, ok, x.op)
		}
	}
}

func Test1_1SignOfAnotherOp(t *testing.T) {
	for _, op := range strangeOps() {
		if s := Sign(op); s != "" {
			t.Errorf("Sign(%d) = %q", op, s)
		}
	}
}

func Test1_1OpOfAnotherSign(t *testing.T) {
	for _, s := range []string{
		"", " ", "+ ", " +", "++", "-1", "=", "!", ">", "<=", ">=", "=<", "<<<", ">>>", "===", "&&", "||", "/", "%", "~",
		"add", "1", "\x00", "+\x00", "\xff", "＋", "−", strings.Repeat("<", 100000),
	} {
		if op, ok := Op(s); op != 0 || ok {
			t.Errorf("Op(%q) = %d, %v", s, op, ok)
		}
	}
}

func Test1_2ParseAndText(t *testing.T) {
	for _, x := range []struct {
		s string
		n int64
	}{
		{"0", 0}, {"1", 1}, {"-1", -1}, {"9", 9}, {"10", 10}, {"-10", -10}, {"100", 100}, {"-907", -907}, {"4294967296", 1 << 32},
		{"1000000000000000000", 1000000000000000000}, {"-1000000000000000000", -1000000000000000000},
		{"9223372036854775807", math.MaxInt64}, {"-9223372036854775808", math.MinInt64},
		{"9223372036854775806", math.MaxInt64 - 1}, {"-9223372036854775807", math.MinInt64 + 1},
	} {
		if n, ok := Parse(x.s); n != x.n || !ok {
			t.Errorf("Parse(%q) = %d, %v; want %d", x.s, n, ok, x.n)
		}
		if s := Text(x.n); s != x.s {
			t.Errorf("Text(%d) = %q; want %q", x.n, s, x.s)
		}
	}
}

func noNumbers() []string {
	return []string{
		"", "-", "--", "--1", "-0", "--0", "00", "01", "-01", "-00", "007", "000000000000000000001", "-09223372036854775808",
		"+0", "+1", "-+1", "+-1", "1-", "1-1", "1+1", " 1", "1 ", "- 1", "1 0", "\t1", "1\n", "1\x00", "\x001", "\xff", "1\xff",
		"x", "1x", "x1", "-x", "0x1", "0X1", "0b1", "0o7", "1e3", "1.0", "1.", ".1", "1_0", "_1", "1,0", "1/1", "1:", "/", ":",
		"9223372036854775808", "-9223372036854775809", "9223372036854775810", "18446744073709551615", "18446744073709551616",
		"18446744073709551617", "-18446744073709551616", "10000000000000000000", "-10000000000000000000", "99999999999999999999",
		"340282366920938463463374607431768211457", "٣", "１", "−1", "NaN", "Inf", "-Inf",
		strings.Repeat("9", 100000), "-" + strings.Repeat("1", 100000), strings.Repeat("0", 100000), strings.Repeat("-", 100000),
	}
}

func Test1_2ParseOfNoNumber(t *testing.T) {
	for _, s := range noNumbers() {
		if n, ok := Parse(s); n != 0 || ok {
			t.Errorf("Parse(%.40q) = %d, %v", s, n, ok)
		}
	}
}

// Every text of few of the letters that matter: a number just if it is its own text.
func Test1_2ParseOfAllShortTexts(t *testing.T) {
	const letters = "-+0129 _x"
	texts := []string{""}
	for from := 0; len(texts[from]) < 5; from++ {
		for i := range len(letters) {
			texts = append(texts, texts[from]+letters[i:i+1])
		}
	}
	for _, s := range texts {
		want, isOne := new(big.Int).SetString(s, 10)
		isOne = isOne && want.String() == s
		n, ok := Parse(s)
		if ok != isOne || isOne && n != want.Int64() || !isOne && n != 0 {
			t.Fatalf("Parse(%q) = %d, %v", s, n, ok)
		}
	}
}

// Every number some steps off both ends is taken within them and refused beyond.
func Test1_2ParseAtBothEnds(t *testing.T) {
	for _, end := range []int64{math.MaxInt64, math.MinInt64} {
		for off := int64(-50); off <= 50; off++ {
			want := new(big.Int).Add(big.NewInt(end), big.NewInt(off))
			n, ok := Parse(want.String())
			if ok != want.IsInt64() || ok && n != want.Int64() || !ok && n != 0 {
				t.Errorf("Parse(%q) = %d, %v", want, n, ok)
			}
		}
	}
}

func Test1_2NarrowTold(t *testing.T) {
	for _, x := range []struct {
		n    int64
		bits int
		want int64
	}{
		{5, 3, -3}, {3, 3, 3}, {4, 3, -4}, {8, 3, 0}, {-1, 3, -1}, {127, 8, 127}, {128, 8, -128}, {255, 8, -1}, {256, 8, 0}, {-129, 8, 127},
		{1 << 31, 32, math.MinInt32}, {1<<31 - 1, 32, math.MaxInt32}, {1 << 32, 33, -1 << 32},
		{0, 1, 0}, {1, 1, -1}, {2, 1, 0}, {-1, 1, -1},
		{1, 0, -1}, {2, 0, 0}, {1, -1, -1}, {6, -64, 0}, {7, math.MinInt, -1},
		{math.MaxInt64, 63, -1}, {math.MinInt64, 63, 0}, {1 << 62, 63, -1 << 62},
		{math.MaxInt64, 64, math.MaxInt64}, {math.MinInt64, 64, math.MinInt64}, {-7, 64, -7},
		{math.MinInt64, 65, math.MinInt64}, {255, 99, 255}, {-7, 128, -7}, {math.MaxInt64, math.MaxInt, math.MaxInt64},
	} {
		if n := Narrow(x.n, x.bits); n != x.want {
			t.Errorf("Narrow(%d, %d) = %d; want %d", x.n, x.bits, n, x.want)
		}
	}
}

func Test1_2NarrowReckoned(t *testing.T) {
	for bits := -70; bits <= 140; bits++ {
		kept := uint(min(max(bits, 1), 64))
		span := new(big.Int).Lsh(big.NewInt(1), kept)
		for _, n := range edges() {
			want := new(big.Int).Mod(big.NewInt(n), span)
			if want.Bit(int(kept)-1) == 1 {
				want.Sub(want, span)
			}
			if got := Narrow(n, bits); got != want.Int64() {
				t.Fatalf("Narrow(%d, %d) = %d; want %d", n, bits, got, want)
			}
		}
	}
}

func Test1_3ParseOfText(t *testing.T) {
	l := edges()
	for n := int64(-2000); n <= 2000; n++ {
		l = append(l, n, math.MaxInt64-n&2047, math.MinInt64+n&2047)
	}
	// A row that wanders through all 64 bits, the same each time.
	n := int64(1)
	for range 20000 {
		n = n*6364136223846793005 + 1442695040888963407
		l = append(l, n, n>>(n&63))
	}
	for _, n := range l {
		if back, ok := Parse(Text(n)); back != n || !ok {
			t.Fatalf("Parse(Text(%d)) = %d, %v", n, back, ok)
		}
	}
}

func Test1_4NoPanic(t *testing.T) {
	ints := append(strangeOps(), 1, 2, 3, 4, 5, 6, 7, 8, 9, 10, 11, 62, 65, -63, -64, -65)
	texts := append(noNumbers(), "0", "-1", "+", "<<", "==", "<", strings.Repeat("\x00", 9), "\xed\xa0\x80")
	defer func() {
		if why := recover(); why != nil {
			t.Error("panic:", why)
		}
	}()
	for _, s := range texts {
		Parse(s)
		Op(s)
	}
	for _, i := range ints {
		Sign(i)
		for _, a := range edges() {
			Text(a)
			Narrow(a, i)
			for _, b := range []int64{0, 1, -1, 63, 64, 65, -63, -64, -65, math.MaxInt64, math.MinInt64} {
				Do(i, a, b)
			}
		}
	}
}
