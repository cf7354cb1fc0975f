package sample

import (
	"iter"
	"math"
)

// Numbers is a row of pseudo-random numbers, always the same one from the same Seed.
type Numbers struct{ Seed uint64 }

// Below is the next number: from 0 on, below another one.
func (n *Numbers) Below(limit int) int {
	n.Seed += 0x9e3779b97f4a7c15
	z := n.Seed
	z = (z ^ z>>30) * 0xbf58476d1ce4e5b9
	z = (z ^ z>>27) * 0x94d049bb133111eb
	return int((z ^ z>>31) % uint64(limit))
}

// Word is mostly a small one, an address often.
func (n *Numbers) Word() int {
	switch n.Below(8) {
	case 0:
		return n.Below(1<<32) - 1<<31
	case 1:
		return []int{-1 << 31, 1<<31 - 1, 4095, 4096, -256, 321}[n.Below(6)]
	}
	return n.Below(60) - 4
}

// Huge is numbers that are never places or registers; 32 bits of some of them are those of a small number.
func Huge() []int {
	return []int{math.MinInt, math.MinInt + 1, -1 << 32, 1 - 1<<32, -1 << 31, -1 << 13, 1 << 13, 1<<31 - 1, 1 << 31, 1 << 32, 1<<32 + 1, 1<<32 + 3, math.MaxInt - 1, math.MaxInt}
}

// Rows is every row of so many numbers below a limit, in the same memory.
func Rows(many, limit int) iter.Seq[[]int] {
	return func(show func(row []int) bool) {
		row := make([]int, many)
		for show(row) {
			k := 0
			for ; k < many && row[k] == limit-1; k++ {
				row[k] = 0
			}
			if k == many {
				return
			}
			row[k]++
		}
	}
}
