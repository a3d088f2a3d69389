package nat

import "testing"

// The factors of a mix must stay below base, or apply would overflow.
func TestStepsStayBelowBase(t *testing.T) {
	const top = base * base
	state := uint64(7)
	next := func(n int64) int64 {
		state = state*6364136223846793005 + 1442695040888963407
		return int64(state>>1) % n
	}
	within := func(n int64) bool { return -base < n && n < base }
	check := func(x, y int64) {
		m := stepsOf(x, y)
		if !within(m.a) || !within(m.b) || !within(m.c) || !within(m.d) {
			t.Fatalf("stepsOf(%d, %d): %v", x, y, m)
		}
	}
	for range 200000 {
		x := top/10 + next(top-top/10)
		check(x, next(x+1))
		check(x, x/(1+next(base)))
		check(top-1-next(100), x/(1+next(1000)))
	}
	// Neighbours in Fibonacci's row have the smallest quotients, the most steps.
	a, b := int64(0), int64(1)
	for a+b < top {
		a, b = b, a+b
	}
	check(b, a)
	for _, x := range []int64{top / 10, top/10 + 1, top - 1} {
		for _, y := range []int64{0, 1, 2, base - 1, base, base + 1, x / 2, x - 1, x} {
			check(x, y)
		}
	}
}
