package inline_test

import (
	"slices"
	"testing"

	"doppel/api"
	"doppel/code"
	"doppel/sample"
)

// small goes by the words of the chapter.
func small(f api.Func) bool {
	if !code.RightFunc(f) || f.Frame != 0 || len(f.Code) > 12 {
		return false
	}
	for at, i := range f.Code {
		if i.Kind == api.Call || i.Kind == api.Jump && i.To <= at || i.Kind == api.Branch && (i.To <= at || i.Else <= at) {
			return false
		}
	}
	return true
}

// node is an instruction of the model: it leads to others themselves, so that nothing is numbered until the end.
type node struct {
	api.Instr
	to, otherwise *node
}

// nodes is those of a list of instructions.
func nodes(l []api.Instr) []*node {
	var all []*node
	for _, i := range l {
		all = append(all, &node{Instr: i})
	}
	for _, n := range all {
		if n.Kind == api.Jump || n.Kind == api.Branch {
			n.to = all[n.To]
		}
		if n.Kind == api.Branch {
			n.otherwise = all[n.Else]
		}
	}
	return all
}

// written is nodes as a list of instructions.
func written(all []*node) []api.Instr {
	places := map[*node]int{}
	for at, n := range all {
		places[n] = at
	}
	var l []api.Instr
	for _, n := range all {
		i := n.Instr
		if n.to != nil {
			i.To = places[n.to]
		}
		if n.otherwise != nil {
			i.Else = places[n.otherwise]
		}
		l = append(l, i)
	}
	return l
}

// expansion is what Of is to tell of a function of a valid unit: a call at a time is replaced, in a list that is numbered anew at the end.
func expansion(u api.Unit, k int) (api.Func, int) {
	f, all, count := u.Funcs[k], nodes(u.Funcs[k].Code), 0
	for at := 0; at < len(all); at++ {
		n := all[at]
		if n.Kind != api.Call {
			continue
		}
		of := u.Funcs[slices.IndexFunc(u.Funcs, func(g api.Func) bool { return g.Name == n.Text })]
		if !small(of) || of.Name == f.Name || f.Regs+of.Regs > 4096 {
			continue
		}
		instead := replacement(n.Instr, of, f, all[at+1])
		if len(all)+len(instead) > 8192 {
			continue
		}
		// What has led to the call leads to the first one.
		*n = *instead[0]
		all = slices.Insert(all, at+1, instead[1:]...)
		at += len(instead) - 1
		f.Regs += of.Regs
		count++
	}
	f.Code = written(all)
	return f, count
}

// replacement is what is inserted in a function for a call of a small one.
func replacement(call api.Instr, of, f api.Func, behind *node) []*node {
	var all []*node
	for r := range of.Regs {
		i := sample.Const(f.Regs+r, 0)
		if r < call.N {
			i = sample.Copy(f.Regs+r, call.Args[r])
		}
		all = append(all, &node{Instr: i})
	}
	for _, n := range nodes(of.Code) {
		others(n, f)
		if n.Kind != api.Return {
			all = append(all, n)
			continue
		}
		// What has led to the Return leads to the first one of the two.
		told := n.A
		n.Instr, n.to = sample.Jump(0), behind
		if call.Dst != -1 {
			jump := *n
			n.Instr, n.to = sample.Copy(call.Dst, told), nil
			all = append(all, n, &jump)
			continue
		}
		all = append(all, n)
	}
	return all
}

// others gives an instruction of a small function the new registers of the function that calls it, and the place behind its frame.
func others(n *node, f api.Func) {
	var fields []*int
	switch n.Kind {
	case api.Const, api.Getc:
		fields = []*int{&n.Dst}
	case api.Frame:
		fields = []*int{&n.Dst}
		n.N = f.Frame
	case api.Unary, api.Copy, api.Load:
		fields = []*int{&n.Dst, &n.A}
	case api.Binary:
		fields = []*int{&n.Dst, &n.A, &n.B}
	case api.Store:
		fields = []*int{&n.A, &n.B}
	case api.Putc, api.Branch, api.Return:
		fields = []*int{&n.A}
	}
	for _, field := range fields {
		*field += f.Regs
	}
}

// sameUnits tells whether units are the same.
func sameUnits(a, b api.Unit) bool {
	return slices.EqualFunc(a.Funcs, b.Funcs, code.Same) && slices.Equal(a.Globals, b.Globals) && a.Top == b.Top
}

// TestEverySmall has every function of up to four instructions of some sorts, with some small ones and some that are not.
func TestEverySmall(t *testing.T) {
	for many := 1; many <= 4; many++ {
		sorts := sample.Read("call 0 id 1; call 1 id 1; call -1 pick 1 0; call 0 zero; call 1 again 0; call 0 main; return 0; putc 1")
		for to := range min(many, 3) {
			sorts = append(sorts, sample.Jump(to), sample.Branch(1, to, many-1))
		}
		others := some(sorts)
		for places := range sample.Rows(many, len(sorts)) {
			f := sample.Func("main", 0, 2, 3)
			for _, n := range places {
				f.Code = append(f.Code, sorts[n])
			}
			if !code.RightFunc(f) {
				continue
			}
			u := unit(append([]api.Func{f}, others...)...)
			want, count := expansion(u, 0)
			if same(t, sample.Show(f), u, 0, want, count); t.Failed() {
				return
			}
		}
	}
}

// little is a function that is small, but for some: they have more instructions, a frame, a Call, or an edge to any place.
func little(name string, numbers *sample.Numbers) api.Func {
	f := sample.Func(name, numbers.Below(api.MaxParams+1), 0, 0)
	f.Regs = f.Params + numbers.Below(4)
	f.Regs = max(f.Regs, 1)
	many := 1 + numbers.Below(13)
	for len(f.Code) < many-1 {
		kind := 1 + numbers.Below(api.Return)
		if kind == api.Call || kind == api.Return && numbers.Below(3) > 0 {
			kind = api.Getc
		}
		f.Code = append(f.Code, numbers.Instr(f, kind, nil, func() int {
			return len(f.Code) + 1 + numbers.Below(many-1-len(f.Code))
		}))
	}
	f.Code = append(f.Code, sample.Return(numbers.Below(f.Regs)))
	switch numbers.Below(20) {
	case 0:
		f.Frame = 1
	case 1:
		f.Code[numbers.Below(many)] = sample.Jump(numbers.Below(many))
	case 2:
		f.Code = append(sample.Read("call -1 main"), f.Code...)
		for at := range f.Code {
			i := &f.Code[at]
			if i.Kind == api.Jump || i.Kind == api.Branch {
				i.To++
			}
			if i.Kind == api.Branch {
				i.Else++
			}
		}
	}
	if last := &f.Code[len(f.Code)-1]; last.Kind == api.Call {
		*last = sample.Return(0)
	}
	return f
}

// busy is a function in which many instructions are calls of some others.
func busy(f api.Func, others []api.Func, numbers *sample.Numbers) api.Func {
	f.Code = slices.Clone(f.Code)
	for at, i := range f.Code[:len(f.Code)-1] {
		if i.Kind >= api.Jump || numbers.Below(2) == 0 {
			continue
		}
		of := others[numbers.Below(len(others))]
		call := sample.Call(numbers.Below(f.Regs+1)-1, of.Name)
		for call.N < of.Params {
			call.Args[call.N] = numbers.Below(f.Regs)
			call.N++
		}
		f.Code[at] = call
	}
	return f
}

// mixed is a valid unit of pseudo-random numbers, with little functions, and others that call these often.
func mixed(seed int) api.Unit {
	u, numbers := sample.Unit(seed), &sample.Numbers{Seed: uint64(seed) << 20}
	var others []api.Func
	for k := range 1 + numbers.Below(4) {
		others = append(others, little("s"+number(k), numbers))
	}
	for k, f := range u.Funcs {
		u.Funcs[k] = busy(f, others, numbers)
	}
	for _, f := range others {
		u.Funcs = slices.Insert(u.Funcs, numbers.Below(len(u.Funcs)+1), f)
	}
	if seed%2 == 0 {
		for _, f := range u.Funcs {
			calm(f)
		}
	}
	return u
}

// calm puts what may be a Trap out of the way, so that runs go further.
func calm(f api.Func) {
	for at, i := range f.Code {
		switch {
		case i.Kind == api.Load:
			f.Code[at] = sample.Getc(i.Dst)
		case i.Kind == api.Store:
			f.Code[at] = sample.Putc(i.B)
		case i.Op >= api.Div && i.Op <= api.RemU:
			f.Code[at].Op = api.Sub
		}
	}
}

// TestMixed holds that all is as the model tells it, for pseudo-random units.
func TestMixed(t *testing.T) {
	littles, smalls, none, some, many := 0, 0, 0, 0, 0
	for seed := range 4000 {
		u := mixed(seed)
		count := holds(t, show(u), u)
		if t.Failed() {
			t.Fatal("seed", seed)
		}
		switch {
		case count == 0:
			none++
		case count < 5:
			some++
		default:
			many++
		}
		for _, f := range u.Funcs {
			if f.Name[0] == 's' {
				littles++
				if small(f) {
					smalls++
				}
			}
		}
	}
	if min(none, some, many, smalls, littles-smalls) < 200 {
		t.Error("too few units of a sort:", none, some, many, smalls, littles)
	}
}
