package core_test

import (
	"math/rand"
	"strconv"
	"strings"
	"testing"

	"doppel/core"
	"doppel/tree"
)

const (
	isInt = iota
	isUnsigned
	isChar
)

// object is a variable of the model: how it is written, its type, and its value.
type object struct {
	text string
	of   int
}

// model makes sources, and computes what they do by the chapter's meaning of the tree: 32 bits, by types.
type model struct {
	random  *rand.Rand
	objects []object
	values  []int64
	output  []byte
}

// as is a number as one of a type.
func as(n int64, of int) int64 {
	switch of {
	case isUnsigned:
		return int64(uint32(n))
	case isChar:
		return n & 255
	}
	return int64(int32(n))
}

// The variables are in registers, in the frame, global, in an array and in structs.
const modelled = `int results[64];struct m{int i;unsigned u;char c;};int gi;unsigned gu;char gc;struct m gs;char ga[2];
char cut(char x){return x;}unsigned flip(unsigned x){return ~x;}int half(int x){return x/2;}char code(int x){&x;return x;}
int main(){int ri;unsigned ru;char rc;int fi;unsigned fu;char fc;struct m s;struct m*to=&gs;int a[2];unsigned b[3];unsigned*p=b+1;&fi;&fu;&fc;s.i=0;s.u=0;s.c=0;a[0]=0;a[1]=0;b[0]=0;b[1]=0;b[2]=0;`

func newModel(seed int64) *model {
	m := &model{random: rand.New(rand.NewSource(seed))}
	for i, l := range []string{"ri fi gi s.i to->i a[0] a[1]", "ru fu gu s.u to->u b[0] *p p[1]", "rc fc gc s.c gs.c ga[0] ga[1]"} {
		for _, text := range strings.Fields(l) {
			m.objects = append(m.objects, object{text, i})
			m.values = append(m.values, 0)
		}
	}
	return m
}

// expression is the text of one, its type and its value; what it does is done.
func (m *model) expression(depth int) (string, int, int64) {
	if depth == 0 {
		return m.leaf()
	}
	switch m.random.Intn(12) {
	case 0:
		return m.leaf()
	case 1:
		return m.prefix(depth)
	case 2:
		return m.short(depth)
	case 3:
		return m.choice(depth)
	case 4, 5:
		return m.assignment(depth)
	case 6:
		return m.called(depth)
	case 7:
		text, _, n := m.expression(depth - 1)
		m.output = append(m.output, byte(n))
		return "putc(" + text + ")", isInt, n & 255
	}
	return m.binary(depth)
}

func (m *model) leaf() (string, int, int64) {
	if m.random.Intn(3) > 0 {
		n := m.random.Intn(len(m.objects))
		return m.objects[n].text, m.objects[n].of, m.values[n]
	}
	numbers := []int64{0, 1, 2, 3, 31, 32, 33, 127, 128, 255, 256, 65535, 1 << 30, 1<<31 - 1, 1 << 31, 1<<31 + 1, 1<<32 - 2, 1<<32 - 1, m.random.Int63n(1 << 32), m.random.Int63n(1000)}
	n := numbers[m.random.Intn(len(numbers))]
	if n < 1<<31 {
		return strconv.FormatInt(n, 10), isInt, n
	}
	return "0x" + strconv.FormatInt(n, 16), isUnsigned, n
}

// arithmetic is the type of what is computed of two.
func arithmetic(a, b int) int {
	if a == isUnsigned || b == isUnsigned {
		return isUnsigned
	}
	return isInt
}

func (m *model) prefix(depth int) (string, int, int64) {
	text, of, n := m.expression(depth - 1)
	text = "(" + text + ")"
	result := arithmetic(of, of)
	switch m.random.Intn(6) {
	case 0:
		return "-" + text, result, as(-n, result)
	case 1:
		return "~" + text, result, as(^n, result)
	case 2:
		return "!" + text, isInt, int64(truth(n == 0))
	case 3:
		return "(int)" + text, isInt, as(n, isInt)
	case 4:
		return "(unsigned)" + text, isUnsigned, as(n, isUnsigned)
	}
	return "(char)" + text, isChar, as(n, isChar)
}

// maybe is an expression that is evaluated only if that is asked.
func (m *model) maybe(depth int, is bool) (string, int, int64) {
	values, output := append([]int64{}, m.values...), m.output
	text, of, n := m.expression(depth)
	if !is {
		m.values, m.output = values, output
	}
	return text, of, n
}

func (m *model) short(depth int) (string, int, int64) {
	left, _, a := m.expression(depth - 1)
	if m.random.Intn(2) == 0 {
		right, _, b := m.maybe(depth-1, a != 0)
		return "(" + left + ")&&(" + right + ")", isInt, int64(truth(a != 0 && b != 0))
	}
	right, _, b := m.maybe(depth-1, a == 0)
	return "(" + left + ")||(" + right + ")", isInt, int64(truth(a != 0 || b != 0))
}

func (m *model) choice(depth int) (string, int, int64) {
	test, _, c := m.expression(depth - 1)
	left, ofLeft, a := m.maybe(depth-1, c != 0)
	right, ofRight, b := m.maybe(depth-1, c == 0)
	if c == 0 {
		a = b
	}
	of := arithmetic(ofLeft, ofRight)
	return "(" + test + ")?(" + left + "):(" + right + ")", of, as(a, of)
}

// operate is the result of an operator. A division by 0 is a product here.
func (m *model) operate(ofLeft int, a int64, ofRight int, b int64) (string, int, int64) {
	of := arithmetic(ofLeft, ofRight)
	a, b = as(a, of), as(b, of)
	sign := []string{"+", "-", "*", "/", "%", "&", "|", "^", "<<", ">>"}[m.random.Intn(10)]
	if sign == "<<" || sign == ">>" {
		of = arithmetic(ofLeft, ofLeft)
		a = as(a, of)
	}
	if b == 0 && (sign == "/" || sign == "%") {
		sign = "*"
	}
	n := int64(0)
	switch sign {
	case "+":
		n = a + b
	case "-":
		n = a - b
	case "*":
		n = a * b
	case "/":
		n = a / b
	case "%":
		n = a % b
	case "&":
		n = a & b
	case "|":
		n = a | b
	case "^":
		n = a ^ b
	case "<<":
		n = a << (b & 31)
	case ">>":
		n = a >> (b & 31)
	}
	return sign, of, as(n, of)
}

func (m *model) binary(depth int) (string, int, int64) {
	left, ofLeft, a := m.expression(depth - 1)
	right, ofRight, b := m.expression(depth - 1)
	if m.random.Intn(3) > 0 {
		sign, of, n := m.operate(ofLeft, a, ofRight, b)
		return "(" + left + ")" + sign + "(" + right + ")", of, n
	}
	of := arithmetic(ofLeft, ofRight)
	a, b = as(a, of), as(b, of)
	k := m.random.Intn(6)
	sign := []string{"==", "!=", "<", "<=", ">", ">="}[k]
	is := []bool{a == b, a != b, a < b, a <= b, a > b, a >= b}[k]
	return "(" + left + ")" + sign + "(" + right + ")", isInt, int64(truth(is))
}

func (m *model) assignment(depth int) (string, int, int64) {
	n := m.random.Intn(len(m.objects))
	x := m.objects[n]
	switch m.random.Intn(6) {
	case 0:
		m.values[n] = as(m.values[n]+1, x.of)
		return "++" + x.text, x.of, m.values[n]
	case 1:
		m.values[n] = as(m.values[n]-1, x.of)
		return "--" + x.text, x.of, m.values[n]
	case 2:
		old := m.values[n]
		m.values[n] = as(old-1, x.of)
		return "(" + x.text + ")--", x.of, old
	case 3:
		text, _, value := m.expression(depth - 1)
		m.values[n] = as(value, x.of)
		return x.text + "=" + text, x.of, m.values[n]
	}
	old := m.values[n]
	text, of, value := m.expression(depth - 1)
	sign, _, result := m.operate(x.of, old, of, value)
	m.values[n] = as(result, x.of)
	return x.text + sign + "=" + text, x.of, m.values[n]
}

func (m *model) called(depth int) (string, int, int64) {
	text, _, n := m.expression(depth - 1)
	switch m.random.Intn(4) {
	case 0:
		return "cut(" + text + ")", isChar, as(n, isChar)
	case 1:
		return "flip(" + text + ")", isUnsigned, as(^n, isUnsigned)
	case 2:
		return "half(" + text + ")", isInt, as(n, isInt) / 2
	}
	return "code(" + text + ")", isChar, as(n, isChar)
}

// source is a whole source, and what it leaves in results.
func (m *model) source() (string, []int64) {
	var text strings.Builder
	var want []int64
	text.WriteString(modelled)
	put := func(expression string, n int64) {
		text.WriteString("results[" + strconv.Itoa(len(want)) + "]=(int)(" + expression + ");")
		want = append(want, as(n, isInt))
	}
	for range 12 {
		expression, _, n := m.expression(4)
		put(expression, n)
	}
	for n, x := range m.objects {
		put(x.text, m.values[n])
	}
	text.WriteString("}")
	return text.String(), want
}

// TestModel holds that programs do what the model computes, and that they are the same whatever brackets stand in the source.
func TestModel(t *testing.T) {
	for seed := range 400 {
		m := newModel(int64(seed))
		source, want := m.source()
		of, _, errno := tree.Read(source)
		if errno != 0 {
			continue // longer, or deeper, than may be
		}
		p := read(t, source)
		shown(t, p, false)
		done, _ := run(t, p, "")
		for i, n := range want {
			if got := int64(done.memory[1+i]); got != n {
				t.Fatalf("%s: result %d is %d; wanted %d", source, i, got, n)
			}
		}
		if string(done.output) != string(m.output) {
			t.Fatalf("%s: the output is %q; wanted %q", source, done.output, m.output)
		}
		if again := read(t, tree.Print(of)); core.Print(again) != core.Print(p) {
			t.Fatalf("%s: with fewer brackets it is another program", source)
		}
	}
}
