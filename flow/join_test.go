package flow_test

import (
	"math"
	"testing"

	"doppel/flow"
)

func TestKinds(t *testing.T) {
	if flow.Never != 0 || flow.Known != 1 || flow.Any != 2 {
		t.Error("the kinds are", flow.Never, flow.Known, flow.Any)
	}
}

func TestJoin(t *testing.T) {
	never, any := value{}, value{Kind: flow.Any}
	for _, c := range []struct{ a, b, want value }{
		{never, never, never},
		{never, any, any},
		{any, any, any},
		{never, value{flow.Known, 0}, value{flow.Known, 0}},
		{never, value{flow.Known, 5}, value{flow.Known, 5}},
		{any, value{flow.Known, 0}, any},
		{any, value{flow.Known, 5}, any},
		{value{flow.Known, 0}, value{flow.Known, 0}, value{flow.Known, 0}},
		{value{flow.Known, 5}, value{flow.Known, 5}, value{flow.Known, 5}},
		{value{flow.Known, -1 << 31}, value{flow.Known, -1 << 31}, value{flow.Known, -1 << 31}},
		{value{flow.Known, 5}, value{flow.Known, 6}, any},
		{value{flow.Known, 0}, value{flow.Known, 1}, any},
		{value{flow.Known, 5}, value{flow.Known, -5}, any},
		{value{flow.Known, 5}, value{flow.Known, 5 + 1<<32}, any},

		// An N where it has no meaning.
		{value{flow.Never, 7}, value{flow.Never, 7}, never},
		{value{flow.Never, 7}, value{flow.Never, 8}, never},
		{value{flow.Never, 7}, never, never},
		{value{flow.Never, 7}, any, any},
		{value{flow.Never, 7}, value{flow.Any, 7}, any},
		{value{flow.Never, 7}, value{flow.Known, 5}, value{flow.Known, 5}},
		{value{flow.Never, 7}, value{flow.Known, 7}, value{flow.Known, 7}},
		{value{flow.Any, 7}, value{flow.Any, 7}, any},
		{value{flow.Any, 7}, value{flow.Any, 8}, any},
		{value{flow.Any, 7}, never, any},
		{value{flow.Any, 7}, any, any},
		{value{flow.Any, 7}, value{flow.Known, 7}, any},
		{value{flow.Any, 7}, value{flow.Known, 8}, any},
		{value{flow.Any, 7}, value{9, 7}, any},

		// Numbers that are no words, and kinds that are none.
		{value{flow.Known, math.MaxInt}, value{flow.Known, math.MaxInt}, value{flow.Known, math.MaxInt}},
		{value{flow.Known, math.MaxInt}, value{flow.Known, math.MinInt}, any},
		{value{flow.Known, math.MinInt}, never, value{flow.Known, math.MinInt}},
		{value{3, 7}, value{3, 7}, value{3, 7}},
		{value{3, 7}, value{3, 8}, any},
		{value{3, 7}, value{-1, 7}, any},
		{value{3, 7}, value{flow.Known, 7}, any},
		{value{3, 7}, never, value{3, 7}},
		{value{3, 7}, value{flow.Never, 7}, value{3, 7}},
		{value{3, 7}, any, any},
		{value{-1, 0}, value{-1, 0}, value{-1, 0}},
		{value{-1, 0}, never, value{-1, 0}},
		{value{-1, 0}, value{flow.Known, 0}, any},
		{value{math.MinInt, math.MaxInt}, value{math.MinInt, math.MaxInt}, value{math.MinInt, math.MaxInt}},
		{value{math.MaxInt, 1}, value{math.MinInt, 1}, any},
	} {
		if got := flow.Join(c.a, c.b); got != c.want {
			t.Errorf("Join of %v and %v is %v; wanted %v", c.a, c.b, got, c.want)
		}
		if got := flow.Join(c.b, c.a); got != c.want {
			t.Errorf("Join of %v and %v is %v; wanted %v", c.b, c.a, got, c.want)
		}
	}
}

// TestJoinOfThree holds that it makes no difference in which order three are joined, nor if one is joined again.
func TestJoinOfThree(t *testing.T) {
	var l []value
	for _, kind := range []int{math.MinInt, -1, flow.Never, flow.Known, flow.Any, 3, math.MaxInt} {
		for _, n := range []int{-1, 0, 1, 1 << 40} {
			l = append(l, value{kind, n})
		}
	}
	for _, a := range l {
		for _, b := range l {
			ab := flow.Join(a, b)
			if again := flow.Join(ab, b); again != ab {
				t.Fatal("Join of", a, b, b, "is", again)
			}
			for _, c := range l {
				if x, y := flow.Join(ab, c), flow.Join(a, flow.Join(b, c)); x != y {
					t.Fatal("Join of", a, b, c, "is", x, "or", y)
				}
			}
		}
	}
}
