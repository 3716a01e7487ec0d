package block_test

import (
	"fmt"
	"math/big"
	"testing"

	"astrolabe/api"
	"astrolabe/block"
	"astrolabe/fx"
	"astrolabe/thornton"
	"astrolabe/tri"
)

// The tests of this file hold the calls against the steps that chapter 12 names, and these against the covariance itself.

// source gives strewn numbers, one after another.
type source struct{ next uint64 }

func (s *source) any() uint64 {
	s.next++
	x := s.next * 0x9e3779b97f4a7c15
	x ^= x >> 29
	x *= 0xbf58476d1ce4e5b9
	return x ^ x>>32
}

// bits gives a number of 64 bits of which the given number and up to three more are taken off.
func (s *source) bits(less uint64) int64 { return int64(s.any()) >> (less + s.any()&3) }

// one gives a number from 0 to count - 1.
func (s *source) one(count int64) int64 { return int64(s.any() >> 32 % uint64(count)) }

// list gives numbers that lack some bits.
func (s *source) list(count int64, less uint64) []int64 {
	l := make([]int64, count)
	for i := range l {
		l[i] = s.bits(less)
	}
	return l
}

// cov gives a covariance of such numbers.
func (s *source) cov(u, d uint64) api.Cov {
	var p api.Cov
	copy(p.U[:], s.list(int64(len(p.U)), u))
	copy(p.D[:], s.list(n, d))
	return p
}

// good gives a good one, whose variances are far from their bounds.
func (s *source) good() api.Cov {
	p := s.cov(34, 18)
	for i, d := range p.D {
		p.D[i] = max(d, -d, 1)
	}
	return p
}

// told is what is told of a state, if there is one of that number.
type told struct {
	i, v *big.Int
}

// counted gives numbers from the given one on.
func counted(from int, l []int64) []told {
	var r []told
	for k, v := range l {
		i := big.NewInt(int64(from))
		r = append(r, told{i.Add(i, big.NewInt(int64(k))), big.NewInt(v)})
	}
	return r
}

// of gives what is told of a state.
func of(l []told, i int) (int64, bool) {
	for _, x := range l {
		if x.i.Cmp(big.NewInt(int64(i))) == 0 {
			return x.v.Int64(), true
		}
	}
	return 0, false
}

// begun is the step that begins states anew.
func begun(c *fx.Acc, p api.Cov, l []told) api.Cov {
	var f thornton.Matrix
	var q [n]int64
	for i := range n {
		v, ok := of(l, i)
		switch {
		case !ok:
			f[i][i] = one
		case v < 1:
			q[i], c.Hit = 1, true
		case v > dMost:
			q[i], c.Hit = dMost, true
		default:
			q[i] = v
		}
	}
	return thornton.Step(c, p, f, q)
}

func compare(t *testing.T, name string, got api.Cov, hit bool, call func(c *fx.Acc) api.Cov) {
	t.Helper()
	c := &fx.Acc{}
	if want := call(c); got != want || hit != c.Hit {
		t.Fatalf("P12.1: %s: %v, flag %v, not %v, flag %v", name, got, hit, want, c.Hit)
	}
	if !tri.Good(got) {
		t.Fatalf("P12.1: %s: %v is not good", name, got)
	}
}

func compareReset(t *testing.T, p api.Cov, from int, l []int64) bool {
	t.Helper()
	c, name := &fx.Acc{}, fmt.Sprintf("Reset from %d to %v", from, l)
	got := block.Reset(c, p, from, l...)
	compare(t, name, got, c.Hit, func(c *fx.Acc) api.Cov { return begun(c, p, counted(from, l)) })
	for i := range n {
		if v, ok := of(counted(from, l), i); ok {
			checkAlone(t, name, got, i, min(max(v, 1), dMost))
		}
	}
	return c.Hit
}

func compareForget(t *testing.T, p api.Cov, l []int) bool {
	t.Helper()
	c := &fx.Acc{}
	got := block.Forget(c, p, l...)
	compare(t, fmt.Sprintf("Forget %v", l), got, c.Hit, func(c *fx.Acc) api.Cov {
		var states []told
		for _, i := range l {
			states = append(states, told{big.NewInt(int64(i)), big.NewInt(tri.At(c, p, i, i))})
		}
		return begun(c, p, states)
	})
	return c.Hit
}

func compareGrow(t *testing.T, p api.Cov, from int, l []int64) bool {
	t.Helper()
	c := &fx.Acc{}
	got := block.Grow(c, p, from, l...)
	compare(t, fmt.Sprintf("Grow from %d by %v", from, l), got, c.Hit, func(c *fx.Acc) api.Cov {
		var q [n]int64
		for i := range q {
			q[i], _ = of(counted(from, l), i)
		}
		return thornton.Step(c, p, thornton.One(), q)
	})
	return c.Hit
}

// From each place, as many numbers as there may be.
func TestPlacesByModel(t *testing.T) {
	s := &source{}
	p := s.good()
	for from := -3; from < n+3; from++ {
		for _, count := range []int64{0, 1, 2, 3, 4, 6, 23, 24, 25, 30} {
			l := s.list(count, 20)
			for k, v := range l {
				l[k] = max(v, -v, 1)
			}
			if compareReset(t, p, from, l) || compareGrow(t, p, from, l) {
				t.Errorf("P12.1: %d numbers from %d set the flag", count, from)
			}
		}
	}
}

// Any states, in any order, some of them more than once.
func TestForgetByModel(t *testing.T) {
	s := &source{}
	for i := range int64(200) {
		p := s.good()
		l := make([]int, i%40)
		for k := range l {
			l[k] = int(s.one(n+6)) - 3
		}
		if compareForget(t, p, l) {
			t.Errorf("P12.1: Forget %v sets the flag", l)
		}
	}
}

// Numbers of each length, those that may not be among them.
func TestAnythingByModel(t *testing.T) {
	s, hits, all := &source{}, 0, 0
	for i := range uint64(120) {
		p := s.good()
		if i%2 == 0 {
			p = s.cov(i/2, i*7%60)
		}
		from, l := int(s.one(n+8))-4, s.list(s.one(12), i*11%60)
		states := []int{from, int(s.one(n)), int(s.bits(i % 60)), from}
		for _, hit := range []bool{compareReset(t, p, from, l), compareGrow(t, p, from, l), compareForget(t, p, states)} {
			all++
			if hit {
				hits++
			}
		}
	}
	if hits == 0 || hits == all {
		t.Errorf("%d of %d calls set the flag", hits, all)
	}
}

// near tells whether two numbers differ by no more than what rounding takes.
func near(a, b int64) bool { return fx.Abs(a-b) <= 1<<20 }

// The states that are left alone keep what they have to do with each other; of those begun anew, nothing but a variance is left.
func TestTheCovarianceItself(t *testing.T) {
	s := &source{}
	for k := range 40 {
		c, p := &fx.Acc{}, s.good()
		from, v := k%n, 1+s.one(dOne)
		to := min(from+3, n)
		begun := func(i int) bool { return from <= i && i < to }
		r, w := block.Reset(c, p, from, v, v+1, v+2), block.Forget(c, p, from, from+1, from+2)
		g := block.Grow(c, p, from, v, v+1, v+2)
		for i := range n {
			for j := range n {
				was := tri.At(c, p, i, j)
				reset, left, grown := was, was, was
				switch {
				case begun(i) && i == j:
					reset, grown = v+int64(i-from), was+v+int64(i-from)
				case begun(i) || begun(j):
					reset, left = 0, 0
				}
				if !near(tri.At(c, r, i, j), reset) || !near(tri.At(c, w, i, j), left) || !near(tri.At(c, g, i, j), grown) {
					t.Fatalf("P12.1: from %d: at %d, %d are %d after Reset, %d after Forget, %d after Grow, not %d, %d, %d", from, i, j,
						tri.At(c, r, i, j), tri.At(c, w, i, j), tri.At(c, g, i, j), reset, left, grown)
				}
			}
		}
		if c.Hit {
			t.Errorf("P12.1: from %d: the flag is set", from)
		}
	}
}
