package eval_test

import (
	"math/rand"
	"strings"
	"testing"

	"doppel/api"
	"doppel/core"
	"doppel/eval"
)

// maker makes sources at random, of every kind of statement: cases and labels are anywhere in the switches and functions that they belong to.
type maker struct {
	random    *rand.Rand
	out       strings.Builder
	labels    []string // of the function, without those that have stood already
	targets   []string // all of the function
	cases     [][]string
	loops     int
	breakable int
}

func (m *maker) write(l ...string) {
	for _, s := range l {
		m.out.WriteString(s)
	}
}

func (m *maker) one(l ...string) string { return l[m.random.Intn(len(l))] }

// source has a main and two other functions, one of which has a frame.
func (m *maker) source() string {
	m.write("int g=3;char c='c';int w[3];int*p=0;")
	m.function("int f(int a,int b)", "")
	m.function("int h(int a,int b)", "int z[900];&b;")
	m.function("int main()", "int a=2;int b=3;int z[2];")
	return m.out.String()
}

func (m *maker) function(head, begin string) {
	m.targets = nil
	for n := range m.random.Intn(4) {
		m.targets = append(m.targets, "x"+number(n))
	}
	m.labels = append([]string{}, m.targets...)
	m.write(head, "{", begin)
	m.statements(3)
	for _, l := range m.labels {
		m.write(l, ":;")
	}
	m.write("return ", m.expression(2), ";}")
}

func (m *maker) statements(depth int) {
	for range m.random.Intn(4) {
		m.statement(depth)
	}
}

func (m *maker) statement(depth int) {
	if len(m.labels) > 0 && m.random.Intn(4) == 0 {
		m.write(m.labels[0], ":")
		m.labels = m.labels[1:]
	}
	if k := len(m.cases) - 1; k >= 0 && len(m.cases[k]) > 0 && m.random.Intn(3) == 0 {
		m.write(m.cases[k][0], ":")
		m.cases[k] = m.cases[k][1:]
	}
	if depth == 0 {
		m.write(m.expression(2), ";")
		return
	}
	switch m.random.Intn(16) {
	case 0:
		m.write(";")
	case 1:
		m.write("{")
		m.statements(depth - 1)
		m.write("}")
	case 2, 3:
		m.write("if(", m.expression(2), ")")
		m.nested(depth)
		m.write("else ")
		m.nested(depth)
	case 4, 5, 6:
		m.loop(depth)
	case 7, 8:
		m.choice(depth)
	case 9, 10:
		m.leaves()
	case 11, 12:
		if len(m.targets) > 0 {
			m.write("goto ", m.one(m.targets...))
		}
		m.write(";")
	default:
		m.write(m.expression(3), ";")
	}
}

// nested is a statement in another one, where no else may belong to it.
func (m *maker) nested(depth int) {
	m.write("{")
	m.statement(depth - 1)
	m.write("}")
}

func (m *maker) loop(depth int) {
	m.loops++
	m.breakable++
	part := func() string { return m.one("", m.expression(2)) }
	switch m.random.Intn(3) {
	case 0:
		m.write("while(", m.expression(2), ")")
		m.nested(depth)
	case 1:
		m.write("do ")
		m.nested(depth)
		m.write("while(", m.expression(2), ");")
	case 2:
		m.write("for(", part(), ";", part(), ";", part(), ")")
		m.nested(depth)
	}
	m.loops--
	m.breakable--
}

func (m *maker) choice(depth int) {
	m.breakable++
	var l []string
	for _, n := range m.random.Perm(5)[:m.random.Intn(5)] {
		l = append(l, []string{"default", "case 0", "case 1", "case 2", "case -1"}[n])
	}
	m.cases = append(m.cases, l)
	m.write("switch(", m.one("g", "a", "a&3", "getc()", "b-1"), "){")
	m.statements(depth - 1)
	m.statement(depth - 1)
	m.write("}")
	m.cases = m.cases[:len(m.cases)-1]
	m.breakable--
}

func (m *maker) leaves() {
	l := []string{";", "return " + m.expression(1) + ";"}
	if m.breakable > 0 {
		l = append(l, "break;", "break;")
	}
	if m.loops > 0 {
		l = append(l, "continue;", "continue;")
	}
	m.write(m.one(l...))
}

func (m *maker) expression(depth int) string {
	if depth == 0 {
		return m.one("0", "1", "2", "a", "a", "b", "b", "g", "c", "w[1]", "getc()", "-1")
	}
	e := func() string { return "(" + m.expression(depth-1) + ")" }
	switch m.random.Intn(16) {
	case 0, 1:
		return "putc" + m.one("(97)", "(98)", e())
	case 2:
		return m.one("f", "h") + "(" + m.expression(depth-1) + "," + m.expression(depth-1) + ")"
	case 3:
		return e() + m.one("&&", "||") + e()
	case 4:
		return e() + "?" + e() + ":" + e()
	case 5, 6, 7:
		return m.one("a", "b", "g", "c", "w[0]", "w["+m.expression(0)+"&3]") + m.one("=", "+=", "-=", "*=") + m.expression(depth-1)
	case 8:
		return m.one("a", "b", "g", "w[2]") + m.one("++", "--")
	case 9:
		return m.one("*p", "*(int*)"+e(), "(int)&g", "*(p=&w[1])")
	case 10:
		return m.one("-", "~", "!", "(char)", "(int)(unsigned)") + e()
	case 11:
		return e() + m.one("/", "%") + m.one(e(), "3", "-2")
	}
	return e() + m.one("+", "-", "*", "&", "|", "^", "<<", ">>", "<", "<=", ">", ">=", "==", "!=") + e()
}

// made is a source at random: the same one for the same seed.
func made(seed int64) string {
	m := &maker{random: rand.New(rand.NewSource(seed))}
	return m.source()
}

// TestAgainstModel holds that programs do what the model says, with every amount of fuel.
func TestAgainstModel(t *testing.T) {
	ends := map[int]int{}
	for seed := range 1000 {
		source := made(int64(seed))
		p, _, errno := core.Read(source)
		if errno != api.OK {
			t.Fatal(source, errno)
		}
		m := newModel(t, p)
		for _, input := range []string{"", "\x00\x01\x02ab"} {
			fuels := []int{100, 300, 1000, 3000}
			for fuel := range 30 {
				fuels = append(fuels, fuel*(1+seed%3))
			}
			for _, fuel := range fuels {
				got, wanted := eval.Run(p, []byte(input), fuel), m.run(input, fuel)
				if !equal(got, wanted) {
					t.Fatalf("%s, with a fuel of %d: %s; the model says %s", source, fuel, show(got), show(wanted))
				}
			}
			ends[m.run(input, 3000).End]++
		}
	}
	for end := api.Exit; end <= api.Spent; end++ {
		if ends[end] < 20 {
			t.Error("hardly a run ends with", end, ends)
		}
	}
}
