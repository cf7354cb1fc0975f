package word_test

import (
	"math"
	"math/big"
	"math/rand"
	"strings"
	"testing"

	"doppel/api"
	"doppel/word"
)

const (
	least    = -1 << 31
	greatest = 1<<31 - 1
	modulus  = 1 << 32
)

// Written out here, so that a test does not ask the package what it should say.
var allNames = []string{
	"add", "sub", "mul", "div", "rem", "divu", "remu", "and", "or", "xor", "shl", "shr", "shru",
	"eq", "ne", "lt", "le", "ltu", "leu", "neg", "not", "low", "zero",
}

// Some are an operation modulo 2^8, 2^16 or 2^32, or with another sign.
var noOps = []api.Op{
	0, -1, -4, -20, 24, 25, 31, 100, 257, 1<<16 + 4, 1<<32 + 1, 1<<32 + 20, -1 << 32, math.MaxInt, math.MinInt,
}

var edges = []int{
	0, 1, -1, 2, -2, 3, -3, 7, -7, 10, 12, 31, -31, 32, -32, 33, -33, 63, 64, 127, 128, -128, 255, 256, 257, -255, -256,
	32767, 32768, 65535, 65536, 65537, -65536, 46340, 46341, 1 << 30, 1<<30 + 1, -1 << 30, 0x55555555, -0x55555556,
	greatest, greatest - 1, least, least + 1,
}

var noWords = []int{
	greatest + 1, greatest + 2, least - 1, least - 2, modulus, modulus - 1, modulus + 1, -modulus, -modulus - 1, -modulus + 1,
	modulus + 7, -modulus - 7, 3*modulus + greatest + 1, 5*modulus + 31, 1 << 40, -1 << 40, 1<<62 + 5,
	math.MaxInt, math.MaxInt - 1, math.MinInt, math.MinInt + 1,
}

func numbers() []int {
	l := append(append([]int{}, edges...), noWords...)
	r := rand.New(rand.NewSource(1))
	for range 40 {
		l = append(l, int(r.Uint32()), int(int32(r.Uint32())), int(r.Uint64()))
	}
	return l
}

func wrapped(n *big.Int) *big.Int {
	r := new(big.Int).Mod(n, big.NewInt(modulus))
	if r.Cmp(big.NewInt(greatest)) > 0 {
		r.Sub(r, big.NewInt(modulus))
	}
	return r
}

func unsigned(n *big.Int) *big.Int { return new(big.Int).Mod(n, big.NewInt(modulus)) }

func wanted(op api.Op, a, b int) (int, bool) {
	x, y := wrapped(big.NewInt(int64(a))), wrapped(big.NewInt(int64(b)))
	r := wantedOf(op, x, y)
	if r == nil {
		return 0, false
	}
	return int(wrapped(r).Int64()), true
}

func wantedOf(op api.Op, x, y *big.Int) *big.Int {
	n := new(big.Int)
	truth := func(is bool) *big.Int {
		if is {
			n.SetInt64(1)
		}
		return n
	}
	power := new(big.Int).Lsh(big.NewInt(1), uint(unsigned(y).Int64()%32))
	switch op {
	case api.Add:
		return n.Add(x, y)
	case api.Sub:
		return n.Sub(x, y)
	case api.Mul:
		return n.Mul(x, y)
	case api.DivU, api.RemU:
		return divided(op == api.DivU, unsigned(x), unsigned(y))
	case api.Div, api.Rem:
		return divided(op == api.Div, x, y)
	case api.And:
		return n.And(x, y)
	case api.Or:
		return n.Or(x, y)
	case api.Xor:
		return n.Xor(x, y)
	case api.Shl:
		return n.Mul(x, power)
	case api.Shr: // big's Div rounds down for a positive divisor
		return n.Div(x, power)
	case api.ShrU:
		return n.Div(unsigned(x), power)
	case api.Eq:
		return truth(x.Cmp(y) == 0)
	case api.Ne:
		return truth(x.Cmp(y) != 0)
	case api.Lt:
		return truth(x.Cmp(y) < 0)
	case api.Le:
		return truth(x.Cmp(y) <= 0)
	case api.LtU:
		return truth(unsigned(x).Cmp(unsigned(y)) < 0)
	case api.LeU:
		return truth(unsigned(x).Cmp(unsigned(y)) <= 0)
	case api.Neg:
		return n.Neg(x)
	case api.Not:
		return n.Sub(big.NewInt(-1), x)
	case api.Low:
		return n.Mod(x, big.NewInt(256))
	case api.Zero:
		return truth(x.Sign() == 0)
	}
	return nil
}

func divided(quotient bool, x, y *big.Int) *big.Int {
	if y.Sign() == 0 {
		return nil
	}
	q, r := new(big.Int).QuoRem(x, y, new(big.Int))
	if quotient {
		return q
	}
	return r
}

func check(t *testing.T, op api.Op, a, b, n int, is bool) {
	t.Helper()
	if m, does := word.Do(op, a, b); m != n || does != is {
		t.Fatalf("Do(%d, %d, %d): %d, %v; wanted %d, %v", op, a, b, m, does, n, is)
	}
}

// result is for operations that have one.
func result(t *testing.T, op api.Op, a, b int) int {
	t.Helper()
	n, is := word.Do(op, a, b)
	if !is {
		t.Fatalf("Do(%d, %d, %d): no result", op, a, b)
	}
	return n
}

// P1.1

func TestWrapIsPlain(t *testing.T) {
	for _, c := range []struct {
		n, wrap, plain int
		is             bool
	}{
		{0, 0, 0, true}, {1, 1, 1, true}, {-1, -1, modulus - 1, true}, {-7, -7, modulus - 7, true},
		{greatest, greatest, greatest, true}, {least, least, greatest + 1, true}, {least + 1, least + 1, greatest + 2, true},
		{greatest + 1, least, greatest + 1, false}, {greatest + 2, least + 1, greatest + 2, false},
		{least - 1, greatest, greatest, false}, {modulus, 0, 0, false}, {-modulus, 0, 0, false},
		{modulus - 1, -1, modulus - 1, false}, {modulus + 5, 5, 5, false}, {-modulus - 1, -1, modulus - 1, false},
		{3 << 31, least, greatest + 1, false}, {1 << 40, 0, 0, false}, {1<<40 + 9, 9, 9, false},
		{math.MaxInt, -1, modulus - 1, false}, {math.MinInt, 0, 0, false}, {math.MinInt + 1, 1, 1, false},
	} {
		if word.Wrap(c.n) != c.wrap || word.Plain(c.n) != c.plain || word.Is(c.n) != c.is {
			t.Errorf("%d: Wrap %d, Plain %d, Is %v", c.n, word.Wrap(c.n), word.Plain(c.n), word.Is(c.n))
		}
	}
}

func TestWrapByDefinition(t *testing.T) {
	for _, n := range numbers() {
		w, p := word.Wrap(n), word.Plain(n)
		if w < least || w > greatest || uint64(n)%modulus != uint64(w)%modulus {
			t.Errorf("Wrap(%d): %d", n, w)
		}
		if p < 0 || p >= modulus || uint64(n)%modulus != uint64(p) {
			t.Errorf("Plain(%d): %d", n, p)
		}
		if word.Is(n) != (least <= n && n <= greatest) {
			t.Errorf("Is(%d): %v", n, word.Is(n))
		}
	}
}

func TestTwoOne(t *testing.T) {
	for op := api.Op(-40); op <= 60; op++ {
		if two := op >= 1 && op <= 19; word.Two(op) != two {
			t.Errorf("Two(%d): %v", op, !two)
		}
		if one := op >= 20 && op <= 23; word.One(op) != one {
			t.Errorf("One(%d): %v", op, !one)
		}
	}
	for _, op := range noOps {
		if word.Two(op) || word.One(op) {
			t.Errorf("%d is no operation: Two %v, One %v", op, word.Two(op), word.One(op))
		}
	}
}

// P1.2

func TestDivision(t *testing.T) {
	for _, c := range []struct {
		op      api.Op
		a, b, n int
		is      bool
	}{
		{api.Div, 7, 2, 3, true}, {api.Div, -7, 2, -3, true}, {api.Div, 7, -2, -3, true}, {api.Div, -7, -2, 3, true},
		{api.Rem, 7, 2, 1, true}, {api.Rem, -7, 2, -1, true}, {api.Rem, 7, -2, 1, true}, {api.Rem, -7, -2, -1, true},
		{api.Div, least, -1, least, true}, {api.Rem, least, -1, 0, true}, {api.Div, least, 1, least, true},
		{api.Div, least, greatest, -1, true}, {api.Rem, least, greatest, -1, true}, {api.Div, 0, 5, 0, true},
		{api.DivU, -7, 2, 2147483644, true}, {api.RemU, -7, 2, 1, true}, {api.DivU, 7, -2, 0, true}, {api.RemU, 7, -2, 7, true},
		{api.DivU, least, -1, 0, true}, {api.RemU, least, -1, least, true}, {api.DivU, -1, 1, -1, true}, {api.DivU, -1, -1, 1, true},
		{api.Div, 1, 0, 0, false}, {api.Rem, 1, 0, 0, false}, {api.DivU, 1, 0, 0, false}, {api.RemU, 1, 0, 0, false},
		{api.Div, 0, 0, 0, false}, {api.Rem, -5, 0, 0, false}, {api.DivU, -5, 0, 0, false}, {api.RemU, 0, 0, 0, false},
		{api.Div, 1, modulus, 0, false}, {api.Rem, 9, -modulus, 0, false}, {api.DivU, 1, 1 << 40, 0, false}, {api.RemU, 1, math.MinInt, 0, false},
		{api.Div, modulus + 7, modulus + 2, 3, true}, {api.Rem, greatest + 1, 10, -8, true}, {api.Div, 8, modulus - 2, -4, true},
	} {
		check(t, c.op, c.a, c.b, c.n, c.is)
	}
}

func TestShifts(t *testing.T) {
	for _, c := range []struct {
		op      api.Op
		a, b, n int
	}{
		{api.Shl, 5, 0, 5}, {api.Shr, -5, 0, -5}, {api.ShrU, -5, 0, -5},
		{api.Shl, 1, 31, least}, {api.Shl, 2, 31, 0}, {api.Shr, least, 31, -1}, {api.ShrU, least, 31, 1}, {api.Shr, greatest, 31, 0},
		{api.Shl, 3, 32, 3}, {api.Shr, -8, 32, -8}, {api.ShrU, -8, 32, -8}, {api.Shl, 3, 33, 6}, {api.Shr, -8, 33, -4}, {api.ShrU, -8, 33, 2147483644},
		{api.Shl, 1, -1, least}, {api.Shr, least, -1, -1}, {api.ShrU, -1, -1, 1}, {api.Shl, 3, -31, 6}, {api.Shl, 3, -32, 3}, {api.Shr, 9, -30, 2}, {api.ShrU, -8, -32, -8},
		{api.Shr, -7, 1, -4}, {api.Shr, -1, 5, -1}, {api.ShrU, -1, 28, 15}, {api.Shl, -3, 2, -12}, {api.Shl, greatest, 1, -2},
		{api.Shl, 1, least, 1}, {api.Shl, 1, greatest, least}, {api.Shl, modulus + 1, modulus + 4, 16}, {api.Shr, greatest + 1, 4, least >> 4},
	} {
		check(t, c.op, c.a, c.b, c.n, true)
	}
}

func TestOthers(t *testing.T) {
	for _, c := range []struct {
		op      api.Op
		a, b, n int
	}{
		{api.Add, 2, 3, 5}, {api.Add, greatest, 1, least}, {api.Add, least, -1, greatest}, {api.Add, math.MaxInt, math.MaxInt, -2},
		{api.Sub, 2, 3, -1}, {api.Sub, least, 1, greatest}, {api.Sub, 0, least, least}, {api.Sub, math.MinInt, 1, -1},
		{api.Mul, -3, 7, -21}, {api.Mul, 65536, 65536, 0}, {api.Mul, greatest, greatest, 1}, {api.Mul, least, least, 0}, {api.Mul, least, -1, least}, {api.Mul, 46341, 46341, -2147479015},
		{api.And, 12, 10, 8}, {api.And, -1, 255, 255}, {api.And, modulus - 1, least, least}, {api.Or, 12, 10, 14}, {api.Or, least, 1, least + 1}, {api.Xor, 12, 10, 6}, {api.Xor, -1, greatest, least},
		{api.Eq, 3, 3, 1}, {api.Eq, 3, 4, 0}, {api.Eq, modulus + 3, 3, 1}, {api.Ne, 3, 3, 0}, {api.Ne, 3, 4, 1}, {api.Ne, modulus, 0, 0},
		{api.Lt, -1, 0, 1}, {api.Lt, 0, 0, 0}, {api.Lt, least, greatest, 1}, {api.Lt, greatest + 1, 0, 1}, {api.Le, 0, 0, 1}, {api.Le, 1, 0, 0}, {api.Le, -1, 0, 1},
		{api.LtU, -1, 0, 0}, {api.LtU, 0, -1, 1}, {api.LtU, -1, -1, 0}, {api.LtU, greatest, least, 1}, {api.LeU, 0, -1, 1}, {api.LeU, -1, 0, 0}, {api.LeU, -1, modulus - 1, 1},
		{api.Neg, 5, 9, -5}, {api.Neg, 0, 9, 0}, {api.Neg, least, 9, least}, {api.Neg, greatest, 9, -greatest}, {api.Not, 0, 9, -1}, {api.Not, least, 9, greatest}, {api.Not, modulus, 9, -1},
		{api.Low, -1, 9, 255}, {api.Low, 256, 9, 0}, {api.Low, 511, 9, 255}, {api.Low, -256, 9, 0}, {api.Low, -2, 9, 254}, {api.Zero, 0, 9, 1}, {api.Zero, 1, 0, 0}, {api.Zero, -1, 0, 0}, {api.Zero, modulus, 9, 1}, {api.Zero, 256, 0, 0},
	} {
		check(t, c.op, c.a, c.b, c.n, true)
	}
}

func TestDoByDefinition(t *testing.T) {
	l := numbers()
	for op := api.Add; op <= api.Zero; op++ {
		for _, a := range l {
			for _, b := range l {
				n, is := wanted(op, a, b)
				check(t, op, a, b, n, is)
			}
		}
	}
}

func TestDoIgnoresTheOtherOperand(t *testing.T) {
	for op := api.Neg; op <= api.Zero; op++ {
		for _, a := range numbers() {
			for _, b := range noWords {
				if result(t, op, a, b) != result(t, op, a, 0) {
					t.Fatalf("operation %d of %d depends on %d", op, a, b)
				}
			}
		}
	}
}

func TestDoOfNoOperation(t *testing.T) {
	for _, op := range noOps {
		for _, a := range numbers() {
			check(t, op, a, 0, 0, false)
			check(t, op, a, 3, 0, false)
		}
	}
	for op := api.Op(24); op < 2000; op++ {
		check(t, op, 6, 3, 0, false)
		check(t, -op, 6, 3, 0, false)
	}
}

func TestDoKeepsNothing(t *testing.T) {
	before, _ := word.Do(api.Sub, 9, 4)
	word.Do(api.Div, 9, 0)
	word.Do(0, 9, 4)
	word.Do(api.DivU, -9, 4)
	if after, is := word.Do(api.Sub, 9, 4); after != before || !is {
		t.Errorf("Sub of 9 and 4: %d, then %d", before, after)
	}
}

func TestSteady(t *testing.T) {
	for op := api.Op(-40); op <= 60; op++ {
		steady := op >= 1 && op <= 3 || op >= 8 && op <= 23
		if word.Steady(op) != steady {
			t.Errorf("Steady(%d): %v", op, !steady)
		}
	}
	for _, op := range noOps {
		if word.Steady(op) {
			t.Errorf("%d is no operation, and is steady", op)
		}
	}
}

func TestSteadyByResults(t *testing.T) {
	for op := api.Add; op <= api.Zero; op++ {
		_, is := word.Do(op, 1, 0)
		if is != word.Steady(op) {
			t.Errorf("Steady(%d): %v, but a result for 1 and 0: %v", op, !is, is)
		}
	}
}

func TestNames(t *testing.T) {
	if len(allNames) != int(api.Zero) {
		t.Fatal("the test's names:", len(allNames))
	}
	for i, s := range allNames {
		op := api.Op(i + 1)
		if word.Name(op) != s {
			t.Errorf("Name(%d): %q, wanted %q", op, word.Name(op), s)
		}
		if n, is := word.Named(s); n != op || !is {
			t.Errorf("Named(%q): %d, %v", s, n, is)
		}
	}
}

func TestNoNames(t *testing.T) {
	for _, op := range noOps {
		if word.Name(op) != "" {
			t.Errorf("Name(%d): %q", op, word.Name(op))
		}
	}
	l := []string{"", " ", "0", "1", "noop", "sar", "mod", "addu", "mulu", "equ", "lts", "gt", "ge", "shlu", "ad", "\x00", "\xff", "añd", strings.Repeat("add", 1000)}
	for _, s := range allNames {
		l = append(l, strings.ToUpper(s), strings.ToUpper(s[:1])+s[1:], " "+s, s+" ", s+"\n", s+"\x00", s+s, s[1:]+"_")
	}
	for _, s := range l {
		if n, is := word.Named(s); n != 0 || is {
			t.Errorf("Named(%q): %d, %v", s, n, is)
		}
	}
}

// P1.3

func TestResultsAreWords(t *testing.T) {
	l := numbers()
	for op := api.Add; op <= api.Zero; op++ {
		for _, a := range l {
			for _, b := range l {
				if n, is := word.Do(op, a, b); n < least || n > greatest || !is && n != 0 {
					t.Fatalf("Do(%d, %d, %d): %d, %v", op, a, b, n, is)
				}
			}
		}
	}
}

func TestCommutesAndAssociates(t *testing.T) {
	l := append(append([]int{}, edges...), noWords...)
	for _, op := range []api.Op{api.Add, api.Mul} {
		for _, a := range l {
			for _, b := range l {
				ab := result(t, op, a, b)
				if ba := result(t, op, b, a); ab != ba {
					t.Fatalf("operation %d of %d and %d: %d, turned about %d", op, a, b, ab, ba)
				}
				for _, c := range l {
					x, y := result(t, op, ab, c), result(t, op, a, result(t, op, b, c))
					if x != y {
						t.Fatalf("operation %d of %d, %d and %d: %d, %d", op, a, b, c, x, y)
					}
				}
			}
		}
	}
}

func TestQuotientTimesDivisorPlusRemainder(t *testing.T) {
	for _, ops := range [][2]api.Op{{api.Div, api.Rem}, {api.DivU, api.RemU}} {
		for _, a := range numbers() {
			for _, b := range numbers() {
				if word.Wrap(b) == 0 {
					continue
				}
				q, r := result(t, ops[0], a, b), result(t, ops[1], a, b)
				if n := result(t, api.Add, result(t, api.Mul, q, b), r); n != word.Wrap(a) {
					t.Fatalf("operations %v of %d and %d: %d, %d", ops, a, b, q, r)
				}
			}
		}
	}
}

// P1.4

func TestUnsignedComparisonIsShiftedSigned(t *testing.T) {
	for _, ops := range [][2]api.Op{{api.LtU, api.Lt}, {api.LeU, api.Le}} {
		for _, a := range numbers() {
			for _, b := range numbers() {
				x, y := result(t, api.Add, a, 1<<31), result(t, api.Add, b, 1<<31)
				if result(t, ops[0], a, b) != result(t, ops[1], x, y) {
					t.Fatalf("operations %v of %d and %d differ", ops, a, b)
				}
			}
		}
	}
}
