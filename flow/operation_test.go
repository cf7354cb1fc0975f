package flow_test

import (
	"testing"

	"doppel/api"
	"doppel/sample"
	"doppel/word"
)

var words = []int{0, 1, -1, 2, 3, -3, 5, 31, 32, 33, 255, 256, 321, 65536, -65536, 1<<31 - 1, -1 << 31, -1<<31 + 1}

// becomes holds what an operation on two words makes, as wanted.
func becomes(t *testing.T, op api.Op, a, b int, want string) {
	t.Helper()
	i, what := sample.Binary(op, 3, 1, 2), word.Name(op)+" of "+number(a)+" and "+number(b)
	if word.One(op) {
		i = sample.Unary(op, 3, 1)
	}
	d := drawing{what: what, code: list{sample.Const(1, a), sample.Const(2, b), i, sample.Return(3)}}
	before := "? " + number(a) + " " + number(b) + " "
	d.ahead = []string{"? 0 0 0", "? " + number(a) + " 0 0", before + "0", ""}
	if want != "" {
		d.ahead[3] = before + want
		d.into = into{2: sample.Const(3, drawn(want, 1)[0].N)}
	}
	d.tells(t)
}

// TestOperations has each operation on words that are known. What there is no result of has nothing behind it.
func TestOperations(t *testing.T) {
	for op := api.Add; op <= api.Zero; op++ {
		for _, a := range words {
			for _, b := range words {
				want := ""
				if n, is := word.Do(op, a, b); is {
					want = number(n)
				}
				becomes(t, op, a, b, want)
			}
		}
	}
}

// TestResults has results as they are written in the chapters, without package word.
func TestResults(t *testing.T) {
	const top, low = 1<<31 - 1, -1 << 31
	for _, c := range []struct {
		op   api.Op
		a, b int
		want string
	}{
		{api.Add, 2, 3, "5"}, {api.Add, top, 1, "-2147483648"}, {api.Add, low, -1, "2147483647"}, {api.Add, low, low, "0"},
		{api.Sub, 2, 3, "-1"}, {api.Sub, low, 1, "2147483647"}, {api.Sub, 0, low, "-2147483648"},
		{api.Mul, -2, 3, "-6"}, {api.Mul, top, top, "1"}, {api.Mul, low, -1, "-2147483648"}, {api.Mul, 65536, 65536, "0"},
		{api.Div, -7, 2, "-3"}, {api.Div, low, -1, "-2147483648"}, {api.Div, 7, 0, ""}, {api.Div, 0, 0, ""},
		{api.Rem, -7, 2, "-1"}, {api.Rem, low, -1, "0"}, {api.Rem, 7, 0, ""},
		{api.DivU, -7, 2, "2147483644"}, {api.DivU, low, -1, "0"}, {api.DivU, -1, 1, "-1"}, {api.DivU, 7, 0, ""},
		{api.RemU, -7, 2, "1"}, {api.RemU, low, -1, "-2147483648"}, {api.RemU, 7, 0, ""},
		{api.And, 12, 10, "8"}, {api.Or, 12, 10, "14"}, {api.Xor, 12, 10, "6"},
		{api.Shl, 1, 31, "-2147483648"}, {api.Shl, 3, 32, "3"}, {api.Shl, 3, -31, "6"},
		{api.Shr, -5, 1, "-3"}, {api.Shr, low, 31, "-1"}, {api.ShrU, -5, 1, "2147483645"}, {api.ShrU, low, 31, "1"},
		{api.Eq, 4, 4, "1"}, {api.Eq, 4, 5, "0"}, {api.Ne, 4, 4, "0"}, {api.Ne, 4, 5, "1"},
		{api.Lt, -1, 1, "1"}, {api.Lt, 1, 1, "0"}, {api.Le, 1, 1, "1"}, {api.Le, 1, -1, "0"},
		{api.LtU, -1, 1, "0"}, {api.LtU, 1, -1, "1"}, {api.LeU, -1, -1, "1"}, {api.LeU, -1, 1, "0"},
		{api.Neg, 5, 9, "-5"}, {api.Neg, low, 9, "-2147483648"}, {api.Not, 5, 9, "-6"}, {api.Low, 321, 9, "65"}, {api.Low, -1, 9, "255"}, {api.Zero, 0, 9, "1"}, {api.Zero, 5, 9, "0"},
	} {
		becomes(t, c.op, c.a, c.b, c.want)
	}
}

// TestOfWhatIsNotKnown has each operation with an operand that may be anything: so may be what it makes, and it goes on, whatever the other one is.
func TestOfWhatIsNotKnown(t *testing.T) {
	for op := api.Add; op <= api.Zero; op++ {
		for _, n := range words {
			known := "? " + number(n) + " 0 0"
			operands := [][2]int{{0, 1}, {1, 0}, {0, 0}}
			if word.One(op) {
				operands = [][2]int{{0, 0}}
			}
			for _, o := range operands {
				i := sample.Binary(op, 2, o[0], o[1])
				if word.One(op) {
					i = sample.Unary(op, 2, o[0])
				}
				d := drawing{word.Name(op) + " with " + number(n), list{sample.Const(1, n), i, sample.Copy(3, 1), sample.Return(2)},
					[]string{"? 0 0 0", known, "? " + number(n) + " ? 0", "? " + number(n) + " ? " + number(n)}, into{2: sample.Const(3, n)}}
				d.tells(t)
			}
		}
	}
}

// TestNoResult has a division by 0 where something else leads behind it, too.
func TestNoResult(t *testing.T) {
	for _, op := range []api.Op{api.Div, api.Rem, api.DivU, api.RemU} {
		start := "? 0 0 0"
		for _, d := range []drawing{
			{"of a word", list{sample.Const(1, 7), sample.Binary(op, 2, 1, 3), sample.Return(2)}, []string{start, "? 7 0 0", ""}, nil},
			{"of a register by itself", list{sample.Binary(op, 2, 2, 2), sample.Return(2)}, []string{start, ""}, nil},
			{"back to it", list{sample.Binary(op, 2, 1, 3), sample.Jump(0)}, []string{start, ""}, nil},
			{"at the end of one of two ways", list{sample.Branch(0, 1, 2), sample.Binary(op, 1, 2, 3), sample.Copy(2, 1), sample.Return(1)}, []string{start, start, start, start}, into{2: sample.Const(2, 0)}},
			{"by what is 0 at first alone", list{sample.Binary(op, 2, 1, 3), sample.Const(3, 1), sample.Jump(0)}, []string{start, "", ""}, nil},
			{"by what is 0 at one of two ways", list{sample.Branch(0, 1, 2), sample.Const(3, 1), sample.Binary(op, 1, 2, 3), sample.Return(1)}, []string{start, start, "? 0 0 ?", "? ? 0 ?"}, nil},
		} {
			d.what = word.Name(op) + " " + d.what
			d.tells(t)
		}
	}
}

// TestNoOperation has numbers that are no operation, or none on so many words: such a function may not be.
func TestNoOperation(t *testing.T) {
	for _, n := range append(sample.Huge(), -1, 0, 24, 25, 255, 256, 256+int(api.Add), -int(api.Neg)) {
		invalid(t, "Unary with "+number(n), function(sample.Copy(1, 2), sample.Unary(api.Op(n), 1, 2), sample.Return(0)))
		invalid(t, "Binary with "+number(n), function(sample.Copy(1, 2), sample.Binary(api.Op(n), 1, 2, 3), sample.Return(0)))
	}
	for op := api.Add; op <= api.LeU; op++ {
		invalid(t, "Unary with "+word.Name(op), function(sample.Copy(1, 2), sample.Unary(op, 1, 2), sample.Return(0)))
	}
	for op := api.Neg; op <= api.Zero; op++ {
		invalid(t, "Binary with "+word.Name(op), function(sample.Copy(1, 2), sample.Binary(op, 1, 2, 3), sample.Return(0)))
	}
}
