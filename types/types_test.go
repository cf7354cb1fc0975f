package types_test

import (
	"math"
	"math/rand"
	"reflect"
	"strconv"
	"strings"
	"testing"

	"doppel/api"
	"doppel/types"
)

const (
	most     = 256 // types of a table
	elements = 1024
	words    = 4096
)

// No table has types of these numbers.
var never = []int{-1, -2, -256, most, most + 1, 1 << 20, 1 << 32, 1<<32 + 1, math.MaxInt32, math.MinInt32, math.MaxInt, math.MinInt, math.MinInt + 1}

// model is a table as the chapter defines it: a list of types, and the fields of the structs that are defined. It works everything else out again whenever it is asked.
type model struct {
	list   []api.Type
	fields map[string][]types.Field
}

func newModel() *model {
	return &model{
		list:   []api.Type{{Kind: api.Void}, {Kind: api.Int}, {Kind: api.Unsigned}, {Kind: api.Char}},
		fields: map[string][]types.Field{},
	}
}

func (m *model) has(n int) bool { return 0 <= n && n < len(m.list) }

func (m *model) add(self api.Type) (int, api.Errno) {
	for n, other := range m.list {
		if reflect.DeepEqual(other, self) {
			return n, api.OK
		}
	}
	if len(m.list) >= most {
		return 0, api.ErrLong
	}
	m.list = append(m.list, self)
	return len(m.list) - 1, api.OK
}

func (m *model) pointer(elem int) (int, api.Errno) {
	if !m.has(elem) {
		return 0, api.ErrArg
	}
	return m.add(api.Type{Kind: api.Pointer, Elem: elem})
}

func (m *model) array(elem, n int) (int, api.Errno) {
	switch {
	case !m.has(elem):
		return 0, api.ErrArg
	case m.size(elem) == 0:
		return 0, api.ErrType
	case n < 1, n > elements:
		return 0, api.ErrLong
	case n*m.size(elem) > words:
		return 0, api.ErrLong
	}
	return m.add(api.Type{Kind: api.Array, Elem: elem, N: n})
}

func (m *model) structure(name string) (int, api.Errno) {
	if name == "" {
		return 0, api.ErrArg
	}
	return m.add(api.Type{Kind: api.Struct, Name: name})
}

func (m *model) define(name string, l []types.Field) api.Errno {
	if _, errno := m.structure(name); errno != api.OK {
		return errno
	}
	if m.fields[name] != nil {
		return api.ErrName
	}
	for i, f := range l {
		if f.Name == "" {
			return api.ErrName
		}
		for _, g := range l[:i] {
			if f.Name == g.Name {
				return api.ErrName
			}
		}
	}
	if len(l) == 0 {
		return api.ErrType
	}
	sum := 0
	for _, f := range l {
		if m.size(f.Type) == 0 {
			return api.ErrType
		}
		sum += m.size(f.Type)
	}
	if sum > words {
		return api.ErrLong
	}
	m.fields[name] = append([]types.Field{}, l...)
	return api.OK
}

// size is 0 for a type that has none, or that there is not.
func (m *model) size(n int) int {
	if !m.has(n) {
		return 0
	}
	switch self := m.list[n]; self.Kind {
	case api.Int, api.Unsigned, api.Char, api.Pointer:
		return 1
	case api.Array:
		return self.N * m.size(self.Elem)
	case api.Struct:
		sum := 0
		for _, f := range m.fields[self.Name] {
			sum += m.size(f.Type)
		}
		return sum
	}
	return 0
}

func (m *model) text(n int) string {
	if !m.has(n) {
		return ""
	}
	switch self := m.list[n]; self.Kind {
	case api.Pointer:
		return m.text(self.Elem) + "*"
	case api.Array:
		return m.text(self.Elem) + "[" + strconv.Itoa(self.N) + "]"
	case api.Struct:
		return "struct " + self.Name
	}
	return [...]string{"void", "int", "unsigned", "char"}[n]
}

func (m *model) field(n int, name string) (int, int, bool) {
	offset := 0
	if m.has(n) && m.list[n].Kind == api.Struct {
		for _, f := range m.fields[m.list[n].Name] {
			if f.Name == name {
				return offset, f.Type, true
			}
			offset += m.size(f.Type)
		}
	}
	return 0, 0, false
}

// place is what Field tells.
type place struct {
	offset, of int
	is         bool
}

// known is all that a table tells of a number.
type known struct {
	self   api.Type
	is     bool
	size   int
	sized  bool
	scalar bool
	text   string
	fields []place
}

// What the tests name a field, and what they do not.
var fieldNames = []string{"a", "b", "c", "d", "next", "A", "a ", "int", "f0", "f1", "f255", "", "é"}

func (m *model) know(n int) known {
	k := known{is: m.has(n), size: m.size(n), sized: m.size(n) > 0, text: m.text(n)}
	if k.is {
		k.self = m.list[n]
		k.scalar = k.self.Kind == api.Int || k.self.Kind == api.Unsigned || k.self.Kind == api.Char || k.self.Kind == api.Pointer
	}
	for _, name := range fieldNames {
		offset, of, is := m.field(n, name)
		k.fields = append(k.fields, place{offset, of, is})
	}
	return k
}

func knownOf(t *types.Table, n int) known {
	var k known
	k.self, k.is = t.At(n)
	k.size, k.sized = t.Size(n)
	k.scalar, k.text = t.Scalar(n), t.Text(n)
	for _, name := range fieldNames {
		offset, of, is := t.Field(n, name)
		k.fields = append(k.fields, place{offset, of, is})
	}
	return k
}

func allKnown(t *types.Table) []known {
	var l []known
	for n := range t.Len() {
		l = append(l, knownOf(t, n))
	}
	return l
}

// pair is a table and the model of it: each call is made to both, and has to be answered by both in the same way.
type pair struct {
	t     *testing.T
	table *types.Table
	model *model
}

func newPair(t *testing.T) *pair { return &pair{t, types.New(), newModel()} }

// full is a pair with as many types as may be: int* as the number 4, a struct s that is not defined as 5, and pointers.
func full(t *testing.T) *pair {
	p := newPair(t)
	p.pointer(1)
	p.structure("s")
	for p.table.Len() < most {
		p.pointer(p.table.Len() - 1)
	}
	return p
}

func (p *pair) held(call string, n int, e api.Errno, wantN int, wantE api.Errno) int {
	p.t.Helper()
	if n != wantN || e != wantE {
		p.t.Fatalf("%s: %d, error %d; wanted %d, error %d", call, n, e, wantN, wantE)
	}
	if got := p.table.Len(); got != len(p.model.list) {
		p.t.Fatalf("%d types behind %s; wanted %d", got, call, len(p.model.list))
	}
	return n
}

func (p *pair) pointer(elem int) int {
	p.t.Helper()
	n, e := p.table.Pointer(elem)
	wantN, wantE := p.model.pointer(elem)
	return p.held("Pointer("+strconv.Itoa(elem)+")", n, e, wantN, wantE)
}

func (p *pair) array(elem, count int) int {
	p.t.Helper()
	n, e := p.table.Array(elem, count)
	wantN, wantE := p.model.array(elem, count)
	return p.held("Array("+strconv.Itoa(elem)+", "+strconv.Itoa(count)+")", n, e, wantN, wantE)
}

func (p *pair) structure(name string) int {
	p.t.Helper()
	n, e := p.table.Struct(name)
	wantN, wantE := p.model.structure(name)
	return p.held("Struct("+strconv.Quote(name)+")", n, e, wantN, wantE)
}

func (p *pair) define(name string, l ...types.Field) {
	p.t.Helper()
	e, want := p.table.Define(name, l), p.model.define(name, l)
	p.held("Define("+strconv.Quote(name)+")", 0, e, 0, want)
}

// same holds all that the table tells against the model.
func (p *pair) same() {
	p.t.Helper()
	for n := -2; n < len(p.model.list)+3; n++ {
		if got, want := knownOf(p.table, n), p.model.know(n); !reflect.DeepEqual(got, want) {
			p.t.Fatalf("the type %d: %v; wanted %v", n, got, want)
		}
	}
	for _, n := range never {
		if got, want := knownOf(p.table, n), p.model.know(n); !reflect.DeepEqual(got, want) {
			p.t.Fatalf("the type %d: %v; wanted %v", n, got, want)
		}
	}
}

// The following check a table without the model.

func pointer(t *testing.T, table *types.Table, elem, want int, errno api.Errno) {
	t.Helper()
	if n, e := table.Pointer(elem); n != want || e != errno {
		t.Errorf("Pointer(%d): %d, error %d; wanted %d, %d", elem, n, e, want, errno)
	}
}

func array(t *testing.T, table *types.Table, elem, count, want int, errno api.Errno) {
	t.Helper()
	if n, e := table.Array(elem, count); n != want || e != errno {
		t.Errorf("Array(%d, %d): %d, error %d; wanted %d, %d", elem, count, n, e, want, errno)
	}
}

func structure(t *testing.T, table *types.Table, name string, want int, errno api.Errno) {
	t.Helper()
	if n, e := table.Struct(name); n != want || e != errno {
		t.Errorf("Struct(%.20q): %d, error %d; wanted %d, %d", name, n, e, want, errno)
	}
}

func define(t *testing.T, table *types.Table, errno api.Errno, name string, l ...types.Field) {
	t.Helper()
	if e := table.Define(name, l); e != errno {
		t.Errorf("Define(%.20q) of %d fields: error %d; wanted %d", name, len(l), e, errno)
	}
}

func length(t *testing.T, table *types.Table, want int) {
	t.Helper()
	if n := table.Len(); n != want {
		t.Errorf("%d types; wanted %d", n, want)
	}
}

func size(t *testing.T, table *types.Table, n, want int) {
	t.Helper()
	if got, is := table.Size(n); got != want || is != (want > 0) {
		t.Errorf("the size of %d: %d, %t; wanted %d", n, got, is, want)
	}
}

func field(t *testing.T, table *types.Table, n int, name string, offset, of int) {
	t.Helper()
	if o, f, is := table.Field(n, name); o != offset || f != of || !is {
		t.Errorf("the field %q of %d: %d, %d, %t; wanted %d, %d", name, n, o, f, is, offset, of)
	}
}

func noField(t *testing.T, table *types.Table, n int, name string) {
	t.Helper()
	if o, f, is := table.Field(n, name); o != 0 || f != 0 || is {
		t.Errorf("the field %q of %d: %d, %d, %t; wanted none", name, n, o, f, is)
	}
}

func text(t *testing.T, table *types.Table, n int, want string) {
	t.Helper()
	if got := table.Text(n); got != want {
		t.Errorf("the text of %d: %q; wanted %q", n, got, want)
	}
}

func at(t *testing.T, table *types.Table, n int, want api.Type) {
	t.Helper()
	if got, is := table.At(n); got != want || !is {
		t.Errorf("the type %d: %v, %t; wanted %v", n, got, is, want)
	}
}

// noType checks what is told of a number that is not in a table.
func noType(t *testing.T, table *types.Table, n int) {
	t.Helper()
	if self, is := table.At(n); self != (api.Type{}) || is {
		t.Errorf("the type %d: %v, %t", n, self, is)
	}
	size(t, table, n, 0)
	text(t, table, n, "")
	if table.Scalar(n) {
		t.Errorf("a scalar: %d", n)
	}
	for _, name := range fieldNames {
		noField(t, table, n, name)
	}
}

func fields(l ...any) []types.Field {
	var m []types.Field
	for i := 0; i < len(l); i += 2 {
		m = append(m, types.Field{Name: l[i].(string), Type: l[i+1].(int)})
	}
	return m
}

// unchanged checks that a call changes nothing of what a table tells.
func unchanged(t *testing.T, table *types.Table, call func()) {
	t.Helper()
	before := allKnown(table)
	call()
	if !reflect.DeepEqual(allKnown(table), before) {
		t.Error("a table has changed behind an error, or behind a type that was there")
	}
}

// P3.1, P3.2

func TestFirstTypes(t *testing.T) {
	table := types.New()
	length(t, table, 4)
	for n, want := range []struct {
		size   int
		scalar bool
		text   string
	}{{0, false, "void"}, {1, true, "int"}, {1, true, "unsigned"}, {1, true, "char"}} {
		at(t, table, n, api.Type{Kind: n})
		size(t, table, n, want.size)
		text(t, table, n, want.text)
		if table.Scalar(n) != want.scalar {
			t.Errorf("a scalar: %d, %t", n, table.Scalar(n))
		}
		for _, name := range fieldNames {
			noField(t, table, n, name)
		}
	}
	newPair(t).same()
}

func TestExample(t *testing.T) {
	table := types.New()
	array(t, table, api.Int, 3, 4, api.OK)
	define(t, table, api.OK, "s", fields("a", api.Int, "b", 4)...)
	structure(t, table, "s", 5, api.OK)
	size(t, table, 5, 4)
	field(t, table, 5, "a", 0, api.Int)
	field(t, table, 5, "b", 1, 4)
	noField(t, table, 5, "c")
	length(t, table, 6)
}

func TestTypes(t *testing.T) {
	table := types.New()
	pointer(t, table, api.Void, 4, api.OK)
	pointer(t, table, 4, 5, api.OK)
	array(t, table, 5, 7, 6, api.OK)
	array(t, table, 6, 2, 7, api.OK)
	pointer(t, table, 7, 8, api.OK)
	structure(t, table, "node", 9, api.OK)
	pointer(t, table, 9, 10, api.OK)
	define(t, table, api.OK, "node", fields("v", api.Char, "m", 7, "next", 10, "last", 8, "u", api.Unsigned)...)
	array(t, table, 9, 3, 11, api.OK)
	define(t, table, api.OK, "two", fields("x", 9, "l", 11, "y", 9)...)
	length(t, table, 13)
	for n, want := range []struct {
		self   api.Type
		size   int
		scalar bool
		text   string
	}{
		4:  {api.Type{Kind: api.Pointer, Elem: api.Void}, 1, true, "void*"},
		5:  {api.Type{Kind: api.Pointer, Elem: 4}, 1, true, "void**"},
		6:  {api.Type{Kind: api.Array, Elem: 5, N: 7}, 7, false, "void**[7]"},
		7:  {api.Type{Kind: api.Array, Elem: 6, N: 2}, 14, false, "void**[7][2]"},
		8:  {api.Type{Kind: api.Pointer, Elem: 7}, 1, true, "void**[7][2]*"},
		9:  {api.Type{Kind: api.Struct, Name: "node"}, 18, false, "struct node"},
		10: {api.Type{Kind: api.Pointer, Elem: 9}, 1, true, "struct node*"},
		11: {api.Type{Kind: api.Array, Elem: 9, N: 3}, 54, false, "struct node[3]"},
		12: {api.Type{Kind: api.Struct, Name: "two"}, 90, false, "struct two"},
	} {
		if n < 4 {
			continue
		}
		at(t, table, n, want.self)
		size(t, table, n, want.size)
		text(t, table, n, want.text)
		if table.Scalar(n) != want.scalar {
			t.Errorf("a scalar: %d, %t", n, table.Scalar(n))
		}
	}
	for _, c := range []struct {
		n      int
		name   string
		offset int
		of     int
	}{{9, "v", 0, api.Char}, {9, "m", 1, 7}, {9, "next", 15, 10}, {9, "last", 16, 8}, {9, "u", 17, api.Unsigned}, {12, "x", 0, 9}, {12, "l", 18, 11}, {12, "y", 72, 9}} {
		field(t, table, c.n, c.name, c.offset, c.of)
	}
	for _, n := range []int{8, 10, 11} {
		noField(t, table, n, "v")
	}
	noField(t, table, 12, "v")
	noField(t, table, 9, "x")
	noField(t, table, 9, "")
	noField(t, table, 9, "M")
	noField(t, table, 9, "nex")
}

func TestMadeAgain(t *testing.T) {
	p := newPair(t)
	pi, ai, s := p.pointer(api.Int), p.array(api.Int, 3), p.structure("s")
	pp, ap, aa, ps := p.pointer(pi), p.array(pi, 3), p.array(ai, 3), p.pointer(s)
	p.define("s", fields("a", ai)...)
	as := p.array(s, 3)
	all := []int{pi, ai, s, pp, ap, aa, ps, as}
	for i, n := range all {
		if n != 4+i {
			t.Fatalf("numbers: %v", all)
		}
	}
	unchanged(t, p.table, func() {
		for range 3 {
			again := []int{p.pointer(api.Int), p.array(api.Int, 3), p.structure("s"), p.pointer(pi), p.array(pi, 3), p.array(ai, 3), p.pointer(s), p.array(s, 3)}
			if !reflect.DeepEqual(again, all) {
				t.Errorf("made again: %v; wanted %v", again, all)
			}
			p.define("s", fields("a", ai)...)
		}
	})
	p.same()
	// What differs in one thing alone is another type.
	for i, n := range []int{p.pointer(api.Unsigned), p.pointer(api.Char), p.array(api.Unsigned, 3), p.array(api.Int, 4), p.array(pi, 1), p.structure("S"), p.structure("s "), p.pointer(api.Void), p.structure("int"), p.structure("struct s")} {
		if n != 12+i {
			t.Errorf("the number of another type: %d; wanted %d", n, 12+i)
		}
	}
	p.same()
}

func TestDefineAddsTheStruct(t *testing.T) {
	table := types.New()
	define(t, table, api.OK, "s", fields("a", api.Int)...)
	length(t, table, 5)
	at(t, table, 4, api.Type{Kind: api.Struct, Name: "s"})
	define(t, table, api.ErrType, "t")
	length(t, table, 6)
	structure(t, table, "t", 5, api.OK)
	length(t, table, 6)
}

func TestNotInTheTable(t *testing.T) {
	table := types.New()
	for _, n := range append([]int{4, 5, 6}, never...) {
		unchanged(t, table, func() {
			pointer(t, table, n, 0, api.ErrArg)
			for _, count := range []int{1, 3, 0, -1, 1025, math.MaxInt} {
				array(t, table, n, count, 0, api.ErrArg)
			}
			noType(t, table, n)
		})
	}
	length(t, table, 4)
	pointer(t, table, 3, 4, api.OK)
	pointer(t, table, 5, 0, api.ErrArg)
	pointer(t, table, 4, 5, api.OK)
}

func TestEmptyName(t *testing.T) {
	table := types.New()
	unchanged(t, table, func() {
		structure(t, table, "", 0, api.ErrArg)
		for _, l := range [][]types.Field{nil, {}, fields("a", api.Int), fields("", api.Int), fields("a", api.Int, "a", api.Int), fields("a", api.Void), fields("a", 99)} {
			define(t, table, api.ErrArg, "", l...)
		}
	})
	length(t, table, 4)
	for i, name := range []string{" ", "\x00", "\xff", "é", "*", "[3]", "int", "void", "struct", strings.Repeat("x", 1<<20)} {
		structure(t, table, name, 4+i, api.OK)
		text(t, table, 4+i, "struct "+name)
		at(t, table, 4+i, api.Type{Kind: api.Struct, Name: name})
	}
}

func TestElementWithoutSize(t *testing.T) {
	table := types.New()
	structure(t, table, "s", 4, api.OK)
	unchanged(t, table, func() {
		for _, count := range []int{1, 2, 1024, 1025, 0, -1, math.MaxInt, math.MinInt} {
			array(t, table, api.Void, count, 0, api.ErrType)
			array(t, table, 4, count, 0, api.ErrType)
		}
	})
	length(t, table, 5)
	pointer(t, table, api.Void, 5, api.OK)
	pointer(t, table, 4, 6, api.OK)
	array(t, table, 5, 2, 7, api.OK)
	array(t, table, 6, 2, 8, api.OK)
	define(t, table, api.OK, "s", fields("a", 6)...)
	array(t, table, 4, 2, 9, api.OK)
	array(t, table, api.Void, 2, 0, api.ErrType)
}

func TestElements(t *testing.T) {
	for _, elem := range []int{api.Int, api.Unsigned, api.Char, 4} {
		table := types.New()
		pointer(t, table, api.Int, 4, api.OK)
		unchanged(t, table, func() {
			for _, count := range []int{0, -1, -2, -1024, -4096, 1025, 1026, 4096, 4097, 1 << 32, 1<<32 + 1, 1 << 62, math.MaxInt, math.MinInt, math.MinInt + 1} {
				array(t, table, elem, count, 0, api.ErrLong)
			}
		})
		array(t, table, elem, 1, 5, api.OK)
		array(t, table, elem, 1024, 6, api.OK)
		array(t, table, elem, 1023, 7, api.OK)
		size(t, table, 5, 1)
		size(t, table, 6, 1024)
		size(t, table, 7, 1023)
		at(t, table, 6, api.Type{Kind: api.Array, Elem: elem, N: 1024})
		text(t, table, 6, table.Text(elem)+"[1024]")
	}
}

func TestWordsOfArrays(t *testing.T) {
	table := types.New()
	array(t, table, api.Int, 64, 4, api.OK)
	array(t, table, 4, 64, 5, api.OK)
	size(t, table, 5, words)
	array(t, table, 5, 1, 6, api.OK)
	size(t, table, 6, words)
	text(t, table, 6, "int[64][64][1]")
	define(t, table, api.OK, "s", fields("a", 5)...)
	array(t, table, 7, 1, 8, api.OK)
	array(t, table, api.Char, 17, 9, api.OK)
	array(t, table, 9, 240, 10, api.OK)
	size(t, table, 10, 4080)
	define(t, table, api.OK, "t", fields("a", 4, "b", api.Int)...)
	size(t, table, 11, 65)
	array(t, table, 11, 63, 12, api.OK)
	size(t, table, 12, 4095)
	array(t, table, api.Int, 4, 13, api.OK)
	array(t, table, 13, 1024, 14, api.OK)
	size(t, table, 14, words)
	unchanged(t, table, func() {
		array(t, table, 4, 65, 0, api.ErrLong)
		array(t, table, 4, 1024, 0, api.ErrLong)
		array(t, table, 5, 2, 0, api.ErrLong)
		array(t, table, 7, 2, 0, api.ErrLong)
		array(t, table, 9, 241, 0, api.ErrLong)
		array(t, table, 11, 64, 0, api.ErrLong)
		array(t, table, 13, 1025, 0, api.ErrLong)
		array(t, table, 5, 1024, 0, api.ErrLong)
		array(t, table, 5, 0, 0, api.ErrLong)
		for _, count := range []int{1 << 52, 1 << 58, 1<<58 + 1, 1 << 62, math.MaxInt, math.MinInt} { // times the size, these wrap
			array(t, table, 4, count, 0, api.ErrLong)
			array(t, table, 5, count, 0, api.ErrLong)
		}
	})
	// 4097 is 17 times 241, and 241 times 17: one word more than may be.
	array(t, table, api.Int, 241, 15, api.OK)
	array(t, table, 15, 17, 0, api.ErrLong)
	array(t, table, 15, 16, 16, api.OK)
}

func TestManyTypes(t *testing.T) {
	p := full(t)
	length(t, p.table, most)
	at(t, p.table, most-1, api.Type{Kind: api.Pointer, Elem: most - 2})
	text(t, p.table, most-1, "struct s"+strings.Repeat("*", most-6))
	unchanged(t, p.table, func() {
		pointer(t, p.table, most-1, 0, api.ErrLong)
		pointer(t, p.table, api.Void, 0, api.ErrLong)
		array(t, p.table, api.Int, 1, 0, api.ErrLong)
		structure(t, p.table, "t", 0, api.ErrLong)
		define(t, p.table, api.ErrLong, "t", fields("a", api.Int)...)
		// The errors that are said ahead of it.
		pointer(t, p.table, most, 0, api.ErrArg)
		pointer(t, p.table, -1, 0, api.ErrArg)
		array(t, p.table, most, 1, 0, api.ErrArg)
		array(t, p.table, api.Void, 1, 0, api.ErrType)
		array(t, p.table, 5, 1, 0, api.ErrType)
		structure(t, p.table, "", 0, api.ErrArg)
		define(t, p.table, api.ErrArg, "", fields("a", api.Int)...)
		// And it is said ahead of what is wrong with the fields.
		define(t, p.table, api.ErrLong, "t")
		define(t, p.table, api.ErrLong, "t", fields("", api.Void)...)
		// What is there already.
		pointer(t, p.table, api.Int, 4, api.OK)
		pointer(t, p.table, most-2, most-1, api.OK)
		structure(t, p.table, "s", 5, api.OK)
	})
	define(t, p.table, api.ErrType, "s", fields("a", 5)...)
	define(t, p.table, api.OK, "s", fields("a", most-1, "b", api.Int)...)
	size(t, p.table, 5, 2)
	array(t, p.table, 5, 1, 0, api.ErrLong)
	array(t, p.table, 5, 0, 0, api.ErrLong)
	length(t, p.table, most)
}

// The last type that may be, of each kind.
func TestLastType(t *testing.T) {
	for _, last := range []func(*pair) int{
		func(p *pair) int { return p.pointer(api.Char) },
		func(p *pair) int { return p.array(api.Char, 9) },
		func(p *pair) int { return p.structure("t") },
		func(p *pair) int { p.define("t", fields("a", 4)...); return p.structure("t") },
	} {
		p := newPair(t)
		for i := 0; p.table.Len() < most-1; i++ {
			p.structure("s" + strconv.Itoa(i))
		}
		n := last(p)
		if n != most-1 || last(p) != n {
			t.Errorf("the number of the last type: %d", n)
		}
		p.pointer(api.Int)
		p.array(api.Int, 1)
		p.structure("u")
		p.define("u", fields("a", 1)...)
		p.same()
	}
	// An error of Define leaves the struct there, also in the last place.
	p := newPair(t)
	for p.table.Len() < most-1 {
		p.pointer(p.table.Len() - 1)
	}
	p.define("t", fields("a", api.Void)...)
	p.define("u", fields("a", api.Int)...)
	p.define("t", fields("a", api.Int)...)
	length(t, p.table, most)
	p.same()
}

func TestDefinedTwice(t *testing.T) {
	table := types.New()
	define(t, table, api.OK, "s", fields("a", api.Int, "b", api.Char)...)
	unchanged(t, table, func() {
		for _, l := range [][]types.Field{nil, fields("a", api.Int, "b", api.Char), fields("c", api.Int), fields("a", api.Void), fields("", api.Int), fields("a", 99), fields("a", 4)} {
			define(t, table, api.ErrName, "s", l...)
		}
	})
	size(t, table, 4, 2)
	noField(t, table, 4, "c")
	define(t, table, api.OK, "t", fields("a", api.Int, "b", api.Char)...)
}

// What a struct with a wrong list of fields is, and that it can be defined behind the error.
func TestWrongFields(t *testing.T) {
	for i, c := range []struct {
		l     []types.Field
		errno api.Errno
	}{
		{nil, api.ErrType}, {[]types.Field{}, api.ErrType}, {make([]types.Field, 0, 5), api.ErrType},
		{fields("a", 1, "a", 1), api.ErrName}, {fields("a", 1, "b", 2, "a", 3), api.ErrName}, {fields("b", 1, "a", 2, "a", 3), api.ErrName}, {fields("a", 1, "a", 2, "b", 3), api.ErrName},
		{fields("", 1), api.ErrName}, {fields("a", 1, "", 1), api.ErrName}, {fields("", 1, "a", 1), api.ErrName}, {fields("", 1, "", 1), api.ErrName}, {fields("a", 1, "", 1, "b", 1), api.ErrName},
		{fields("a", api.Void), api.ErrType}, {fields("a", 1, "b", api.Void), api.ErrType}, {fields("b", api.Void, "a", 1), api.ErrType},
		{fields("a", 4), api.ErrType}, {fields("a", 1, "b", 4, "c", 1), api.ErrType}, // a struct that is not defined
		{fields("a", 5), api.ErrType}, {fields("a", 1, "b", 5), api.ErrType}, // itself
		{fields("a", 6), api.ErrType}, {fields("a", -1), api.ErrType}, {fields("a", 1, "b", math.MinInt), api.ErrType}, {fields("a", math.MaxInt), api.ErrType}, // none
		// Several errors: names go ahead of types.
		{fields("a", api.Void, "a", api.Void), api.ErrName}, {fields("a", api.Void, "b", 1, "b", 1), api.ErrName}, {fields("a", 5, "", 1), api.ErrName}, {fields("", -1), api.ErrName}, {fields("", api.Void), api.ErrName},
	} {
		table := types.New()
		structure(t, table, "t", 4, api.OK)
		if i%2 == 0 {
			structure(t, table, "s", 5, api.OK)
		}
		define(t, table, c.errno, "s", c.l...)
		length(t, table, 6)
		at(t, table, 5, api.Type{Kind: api.Struct, Name: "s"})
		size(t, table, 5, 0)
		for _, name := range fieldNames {
			noField(t, table, 5, name)
		}
		array(t, table, 5, 1, 0, api.ErrType)
		unchanged(t, table, func() { define(t, table, c.errno, "s", c.l...) })
		define(t, table, api.OK, "s", fields("d", 1)...)
		size(t, table, 5, 1)
		field(t, table, 5, "d", 0, 1)
		noField(t, table, 5, "a")
	}
}

func TestWordsOfStructs(t *testing.T) {
	table := types.New()
	array(t, table, api.Int, 1024, 4, api.OK)
	array(t, table, 4, 4, 5, api.OK)
	array(t, table, 4, 3, 6, api.OK)
	array(t, table, api.Int, 1023, 7, api.OK)
	define(t, table, api.OK, "one", fields("a", 5)...)
	define(t, table, api.OK, "four", fields("a", 4, "b", 4, "c", 4, "d", 4)...)
	define(t, table, api.OK, "more", fields("a", 6, "b", 7, "c", api.Char)...)
	define(t, table, api.OK, "less", fields("a", 6, "b", 7)...)
	for n, want := range map[int]int{8: words, 9: words, 10: words, 11: words - 1} {
		size(t, table, n, want)
	}
	field(t, table, 9, "d", 3072, 4)
	field(t, table, 10, "c", 4095, api.Char)
	structure(t, table, "s", 12, api.OK)
	unchanged(t, table, func() {
		for _, l := range [][]types.Field{
			fields("a", 5, "b", 1), fields("b", 1, "a", 5), fields("a", 4, "b", 4, "c", 4, "d", 4, "e", 1), fields("a", 8, "b", 3), fields("a", 6, "b", 4, "c", 2), fields("a", 5, "b", 5), fields("a", 11, "b", 1, "c", 1),
		} {
			define(t, table, api.ErrLong, "s", l...)
		}
		// A type without a size, or a name, goes ahead of too many words, wherever it stands.
		define(t, table, api.ErrType, "s", fields("a", 5, "b", 5, "c", api.Void)...)
		define(t, table, api.ErrType, "s", fields("c", api.Void, "a", 5, "b", 5)...)
		define(t, table, api.ErrType, "s", fields("a", 5, "b", 5, "c", 12)...)
		define(t, table, api.ErrType, "s", fields("a", 5, "b", 5, "c", 99)...)
		define(t, table, api.ErrName, "s", fields("a", 5, "b", 5, "b", 5)...)
		define(t, table, api.ErrName, "s", fields("a", 5, "b", 5, "", 5)...)
		define(t, table, api.ErrName, "one", fields("a", 5, "b", 5)...)
	})
	define(t, table, api.ErrLong, "new", fields("a", 5, "b", 1)...)
	structure(t, table, "new", 13, api.OK)
	size(t, table, 13, 0)
	define(t, table, api.OK, "s", fields("a", 11, "b", 1)...)
	size(t, table, 12, words)
}

func TestManyFields(t *testing.T) {
	var l []types.Field
	for i := range words + 1 {
		l = append(l, types.Field{Name: "f" + strconv.Itoa(i), Type: 1 + i%3})
	}
	table := types.New()
	define(t, table, api.ErrLong, "s", l...)
	define(t, table, api.OK, "s", l[:words]...)
	size(t, table, 4, words)
	for i, f := range l[:words] {
		field(t, table, 4, f.Name, i, f.Type)
	}
	noField(t, table, 4, l[words].Name)
	l[words].Name = "f0"
	define(t, table, api.ErrName, "t", l...)
	for len(l) < 1<<17 {
		l = append(l, types.Field{Name: "g" + strconv.Itoa(len(l)), Type: 4})
	}
	define(t, table, api.ErrName, "u", l...)
	l[words].Name = "g"
	define(t, table, api.ErrLong, "u", l...)
	l[len(l)-1].Type = api.Void
	define(t, table, api.ErrType, "u", l...)
}

func TestUndefinedStruct(t *testing.T) {
	table := types.New()
	structure(t, table, "s", 4, api.OK)
	pointer(t, table, 4, 5, api.OK)
	told := func(words int) {
		t.Helper()
		at(t, table, 4, api.Type{Kind: api.Struct, Name: "s"})
		at(t, table, 5, api.Type{Kind: api.Pointer, Elem: 4})
		text(t, table, 4, "struct s")
		text(t, table, 5, "struct s*")
		size(t, table, 4, words)
		size(t, table, 5, 1)
		if table.Scalar(4) || !table.Scalar(5) {
			t.Error("scalars:", table.Scalar(4), table.Scalar(5))
		}
		noField(t, table, 5, "a")
		noField(t, table, 4, "")
	}
	told(0)
	noField(t, table, 4, "a")
	define(t, table, api.ErrType, "t", fields("a", 4)...)
	define(t, table, api.OK, "s", fields("a", 5, "b", 1)...)
	told(2)
	field(t, table, 4, "a", 0, 5)
	define(t, table, api.OK, "t", fields("x", 4, "a", 4)...)
	size(t, table, 6, 4)
	field(t, table, 6, "a", 2, 4)
	noField(t, table, 6, "b")
}

func TestNilTable(t *testing.T) {
	var table *types.Table
	length(t, table, 0)
	for _, n := range append([]int{0, 1, 2, 3, 4}, never...) {
		pointer(t, table, n, 0, api.ErrArg)
		for _, count := range []int{0, 1, -1, 1025, math.MaxInt} {
			array(t, table, n, count, 0, api.ErrArg)
		}
		noType(t, table, n)
	}
	for _, name := range []string{"", "s", "int"} {
		structure(t, table, name, 0, api.ErrArg)
		define(t, table, api.ErrArg, name)
		define(t, table, api.ErrArg, name, fields("a", api.Int)...)
		define(t, table, api.ErrArg, name, fields("", api.Void)...)
	}
	length(t, table, 0)
}

// The rules on memory and determinism.

func TestFieldsChangedBehindTheCall(t *testing.T) {
	table := types.New()
	l := make([]types.Field, 0, 8)
	l = append(l, fields("a", 1, "b", 3, "c", 2, "d", 1)...)[:2]
	kept := append([]types.Field{}, l[:cap(l)]...)
	define(t, table, api.OK, "s", l...)
	if !reflect.DeepEqual(l[:cap(l)], kept) {
		t.Errorf("Define has changed its argument: %v", l[:cap(l)])
	}
	before := allKnown(table)
	for i := range l[:cap(l)] {
		l[:cap(l)][i] = types.Field{Name: "next", Type: 0}
	}
	if !reflect.DeepEqual(allKnown(table), before) {
		t.Error("a table has changed with the slice that it was given")
	}
	size(t, table, 4, 2)
	field(t, table, 4, "a", 0, 1)
	field(t, table, 4, "b", 1, 3)
	noField(t, table, 4, "c")
	noField(t, table, 4, "next")
}

func TestArgumentsStayWithAnError(t *testing.T) {
	table := types.New()
	for _, l := range [][]types.Field{fields("b", 1, "a", 1, "a", 1), fields("b", 1, "a", 0), fields("z", 1, "a", 9), fields("z", 1, "", 1)} {
		kept := append([]types.Field{}, l...)
		if errno := table.Define("s", l[:len(l):len(l)]); errno == api.OK || !reflect.DeepEqual(l, kept) {
			t.Errorf("Define has changed its argument: %v; wanted %v", l, kept)
		}
	}
}

func TestTwoTables(t *testing.T) {
	one, other := types.New(), types.New()
	first := allKnown(other)
	pointer(t, one, 1, 4, api.OK)
	define(t, one, api.OK, "s", fields("a", 4)...)
	array(t, one, 5, 2, 6, api.OK)
	if !reflect.DeepEqual(allKnown(other), first) || !reflect.DeepEqual(allKnown(types.New()), first) {
		t.Error("a table has changed with another one")
	}
	before := allKnown(one)
	structure(t, other, "s", 4, api.OK)
	size(t, other, 4, 0)
	define(t, other, api.OK, "s", fields("b", 1, "a", 1)...)
	array(t, other, 4, 3, 5, api.OK)
	if !reflect.DeepEqual(allKnown(one), before) {
		t.Error("a table has changed with another one")
	}
	size(t, one, 5, 1)
	size(t, other, 4, 2)
	field(t, other, 4, "a", 1, 1)
	for i := 0; other.Len() < most; i++ {
		structure(t, other, "f"+strconv.Itoa(i), 6+i, api.OK)
	}
	structure(t, other, "u", 0, api.ErrLong)
	structure(t, one, "u", 7, api.OK)
}

// P3.1, P3.2 and P3.3, of long sequences of calls.

func (p *pair) anyType(r *rand.Rand) int {
	if r.Intn(12) == 0 {
		return never[r.Intn(len(never))]
	}
	return r.Intn(p.table.Len()+2) - 1
}

func anyCount(r *rand.Rand) int {
	counts := []int{0, 1, 1, 2, 3, 4, 8, 16, 64, 1023, 1024, 1025, -1, math.MaxInt, math.MinInt}
	return counts[r.Intn(len(counts))]
}

func (p *pair) anyFields(r *rand.Rand) []types.Field {
	var l []types.Field
	for _, i := range r.Perm(len(fieldNames))[:r.Intn(5)] {
		l = append(l, types.Field{Name: fieldNames[i], Type: p.anyType(r)})
	}
	if len(l) > 0 && r.Intn(8) == 0 {
		l = append(l, l[r.Intn(len(l))])
	}
	return l
}

func (p *pair) anyCall(r *rand.Rand, structs int) {
	p.t.Helper()
	name := "s" + strconv.Itoa(r.Intn(structs))
	if r.Intn(40) == 0 {
		name = ""
	}
	switch r.Intn(5) {
	case 0:
		p.pointer(p.anyType(r))
	case 1, 2:
		p.array(p.anyType(r), anyCount(r))
	case 3:
		p.structure(name)
	case 4:
		p.define(name, p.anyFields(r)...)
	}
}

func TestRandomCallsByDefinition(t *testing.T) {
	r := rand.New(rand.NewSource(3))
	for _, structs := range []int{3, 10, 200} {
		for range 4 {
			p := newPair(t)
			for i := range 3000 {
				p.anyCall(r, structs)
				if i < 100 || i%100 == 0 {
					p.same()
					p.once()
				}
			}
			p.same()
			p.once()
			if structs == 200 {
				length(t, p.table, most)
			}
		}
	}
}

// once checks P3.3: each type has one number, and each field words of its own within its struct.
func (p *pair) once() {
	p.t.Helper()
	numbers := map[api.Type]int{}
	for n := range p.table.Len() {
		self, _ := p.table.At(n)
		if m, is := numbers[self]; is {
			p.t.Fatalf("the types %d and %d are the same: %v", m, n, self)
		}
		numbers[self] = n
		p.apart(n)
	}
}

func (p *pair) apart(n int) {
	p.t.Helper()
	whole, _ := p.table.Size(n)
	owner := map[int]string{}
	for _, name := range fieldNames {
		offset, of, is := p.table.Field(n, name)
		if !is {
			continue
		}
		words, sized := p.table.Size(of)
		if !sized || offset < 0 || offset+words > whole {
			p.t.Fatalf("the field %q of %d stands at %d with %d words, outside of %d", name, n, offset, words, whole)
		}
		for word := offset; word < offset+words; word++ {
			if other, is := owner[word]; is {
				p.t.Fatalf("the fields %q and %q of %d overlap", other, name, n)
			}
			owner[word] = name
		}
	}
	if len(owner) > 0 && len(owner) != whole {
		p.t.Fatalf("the fields of %d have %d words; wanted %d", n, len(owner), whole)
	}
}

// P3.3: what is told of a number once holds for good, but for a struct that is defined later.
func TestNumbersNeverChange(t *testing.T) {
	r := rand.New(rand.NewSource(4))
	for range 4 {
		p := newPair(t)
		var before []known
		for p.table.Len() < most {
			p.anyCall(r, 60)
			now := allKnown(p.table)
			for n, k := range before {
				got := now[n]
				if k.self.Kind == api.Struct && !k.sized {
					got.size, got.sized, got.fields = k.size, k.sized, k.fields
				}
				if !reflect.DeepEqual(got, k) {
					t.Fatalf("the type %d was %v, and is %v", n, k, now[n])
				}
			}
			before = now
		}
	}
}

func TestSameCallsSameTable(t *testing.T) {
	play := func() []known {
		p := newPair(t)
		r := rand.New(rand.NewSource(5))
		for range 1000 {
			p.anyCall(r, 20)
		}
		return allKnown(p.table)
	}
	if !reflect.DeepEqual(play(), play()) {
		t.Error("the same calls make other tables")
	}
}
