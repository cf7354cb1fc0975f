package graph_test

import (
	"math/rand"
	"slices"
	"testing"
	"time"

	"doppel/api"
	"doppel/code"
	"doppel/graph"
	"doppel/sample"
)

const most = 8192

// inTime holds that what is told of a function as long as may be is told within seconds. (Each call takes milliseconds; there is much room for a slow machine.)
func inTime(t *testing.T, what string, f api.Func) (order, above, heads []int) {
	t.Helper()
	if !code.RightFunc(f) || len(f.Code) != most {
		t.Fatal(what + ": not valid, or not long")
	}
	begin := time.Now()
	graph.Before(f)
	graph.Reached(f)
	graph.Dominates(f, 1, most-1)
	order, above, heads = graph.Order(f), graph.Above(f), graph.Heads(f)
	for k := 0; k < len(heads); k += 1 + len(heads)/20 {
		graph.Loop(f, heads[k])
	}
	if time.Since(begin) > 15*time.Second {
		t.Error(what+": it took", time.Since(begin))
	}
	return order, above, heads
}

// upTo is the numbers from one to another one.
func upTo(from, to int) []int {
	var l []int
	for n := from; n <= to; n++ {
		l = append(l, n)
	}
	return l
}

// filled is a list with one number throughout, but first.
func filled(first, n int) []int { return append([]int{first}, slices.Repeat([]int{n}, most-1)...) }

// each makes a function as long as may be; the last instruction is a Return unless it is told.
func each(make func(at int) api.Instr) api.Func {
	var l []api.Instr
	for at := range most {
		l = append(l, make(at))
	}
	return function(l...)
}

func TestLongStraight(t *testing.T) {
	for what, f := range map[string]api.Func{
		"straight": each(func(at int) api.Instr {
			if at == most-1 {
				return give()
			}
			return straight()[at%10]
		}),
		"a loop of all": each(func(at int) api.Instr {
			if at == most-1 {
				return sample.Jump(0)
			}
			return straight()[at%10]
		}),
		"ways back to 0": each(func(at int) api.Instr { return branch(0, (at+1)%most) }),
		"ways to itself": each(func(at int) api.Instr { return branch(at, min(at+1, most-1)) }),
	} {
		order, above, heads := inTime(t, what, f)
		same(t, what+": Order", order, upTo(0, most-1))
		same(t, what+": Above", above, upTo(-1, most-2))
		want := map[string][]int{"straight": nil, "ways to itself": upTo(0, most-1)}
		if heads0, is := want[what]; is {
			same(t, what+": Heads", heads, heads0)
			continue
		}
		same(t, what+": Heads", heads, []int{0})
		same(t, what+": Loop", graph.Loop(f, 0), upTo(0, most-1))
	}
}

// TestLongLoops has 4095 loops in one another.
func TestLongLoops(t *testing.T) {
	const many = most/2 - 1
	f := each(func(at int) api.Instr {
		switch {
		case at < many:
			return straight()[at%10]
		case at < 2*many:
			return branch(2*many-1-at, at+1)
		case at == 2*many:
			return straight()[0]
		}
		return give()
	})
	order, above, heads := inTime(t, "loops in loops", f)
	same(t, "Order", order, upTo(0, most-1))
	same(t, "Above", above, upTo(-1, most-2))
	same(t, "Heads", heads, upTo(0, many-1))
	for _, head := range []int{0, 1, 2, 1000, many - 2, many - 1} {
		same(t, "Loop", graph.Loop(f, head), upTo(head, 2*many-1-head))
	}
	same(t, "Loop of none", graph.Loop(f, many), nil)
	// The other way about: each loop is tested at its head, and they end at one another.
	f = each(func(at int) api.Instr {
		switch {
		case at == 0:
			return straight()[0]
		case at <= many:
			return branch(at+1, 2*many+2-at)
		case at < most-1:
			return sample.Jump(2*many + 1 - at)
		}
		return give()
	})
	_, above, heads = inTime(t, "loops in loops, tested at their heads", f)
	same(t, "Heads", heads, upTo(1, many))
	for _, head := range []int{1, 2, 1000, many - 1, many} {
		same(t, "Loop", graph.Loop(f, head), upTo(head, 2*many+1-head))
	}
	for at := 1; at <= many; at++ {
		if above[at] != at-1 || above[2*many+2-at] != at {
			t.Fatal("Above of", at, above[at], above[2*many+2-at])
		}
	}
}

// TestLongBranches has many Branches: ways that meet and part again, and ways on and back of which none is the only one.
func TestLongBranches(t *testing.T) {
	ladder := each(func(at int) api.Instr { return branch(min(at+1, most-1), min(at+2, most-1)) })
	_, above, heads := inTime(t, "one or two on", ladder)
	same(t, "Above", above, filled(-1, 0))
	same(t, "Heads", heads, []int{most - 1})
	same(t, "Loop", graph.Loop(ladder, most-1), []int{most - 1})
	toTheEnd := each(func(at int) api.Instr {
		if at == most-1 {
			return give()
		}
		return branch(most-1, at+1)
	})
	_, above, heads = inTime(t, "to the end", toTheEnd)
	same(t, "Above", above, append(upTo(-1, most-3), 0))
	same(t, "Heads", heads, nil)
	both := each(func(at int) api.Instr {
		switch at {
		case 0:
			return branch(1, most-1)
		case 1:
			return sample.Jump(2)
		case most - 1:
			return sample.Jump(most - 2)
		}
		return branch(at-1, at+1)
	})
	_, above, heads = inTime(t, "on and back", both)
	same(t, "Above", above, filled(-1, 0))
	same(t, "Heads", heads, nil)
	for at := 2; at < most-1; at++ {
		both.Code[at].To, both.Code[at].Else = at+1, at-1
	}
	_, above, heads = inTime(t, "on and back, the other way", both)
	same(t, "Above", above, filled(-1, 0))
	same(t, "Heads", heads, nil)
	// Parts that meet, one behind the other: 4 instructions each.
	diamonds := each(func(at int) api.Instr {
		switch {
		case at == most-1:
			return give()
		case at%4 == 0:
			return branch(at+1, at+2)
		case at%4 == 1:
			return sample.Jump(at + 2)
		}
		return straight()[at%10]
	})
	_, above, heads = inTime(t, "parts that meet", diamonds)
	for at, up := range above {
		if up != []int{at - 1, at - 1, at - 2, at - 3}[at%4] {
			t.Fatal("Above of", at, up)
		}
	}
	same(t, "Heads", heads, nil)
}

// TestLongRandom has long functions of any sort; of a few instructions it holds what dominates them.
func TestLongRandom(t *testing.T) {
	for seed := range 6 {
		random := rand.New(rand.NewSource(int64(seed)))
		f := anyOf(random, most)
		if seed%2 == 0 {
			// Without a Return nearly all is reached.
			for at := range f.Code {
				if f.Code[at].Kind == api.Return {
					f.Code[at] = branch((at+1)%most, random.Intn(most))
				}
			}
		}
		_, above, heads := inTime(t, "any", f)
		m := modelOf(f)
		reached := without(m, -1)
		for range 20 {
			a := random.Intn(most)
			others := without(m, a)
			for range 200 {
				b := random.Intn(most)
				is := reached[a] && reached[b] && !others[b]
				up := b
				for up >= 0 && up != a {
					up = above[up]
				}
				if (up == a && reached[a]) != is {
					t.Fatal("Above:", seed, a, b)
				}
			}
			head := slices.ContainsFunc(graph.Before(f)[a], func(from int) bool { return reached[a] && reached[from] && !others[from] })
			if slices.Contains(heads, a) != head {
				t.Fatal("Heads:", seed, a)
			}
		}
	}
}
