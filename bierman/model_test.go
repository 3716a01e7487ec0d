package bierman_test

import (
	"math/big"
	"testing"

	"astrolabe/api"
	"astrolabe/bierman"
	"astrolabe/fx"
	"astrolabe/tri"
)

// The tests of this file hold innovations and updates against big numbers.

// numbers are those of a row or a column.
type numbers []*big.Int

// model reckons as chapter 11 says; hit: something was clamped.
type model struct{ hit bool }

func (m *model) clamp(v *big.Int, lo, hi int64) *big.Int {
	switch {
	case v.Cmp(big.NewInt(lo)) < 0:
		m.hit = true
		return big.NewInt(lo)
	case v.Cmp(big.NewInt(hi)) > 0:
		m.hit = true
		return big.NewInt(hi)
	}
	return v
}

func (m *model) sat(v *big.Int) *big.Int { return m.clamp(v, -top, top) }

// divide gives a quotient, rounded and clamped: that of twice the number has one bit more, by which it is rounded.
func (m *model) divide(v, d *big.Int) *big.Int {
	q := new(big.Int).Lsh(new(big.Int).Abs(v), 1)
	q.Quo(q, d)
	q.Rsh(q.Add(q, big.NewInt(1)), 1)
	return m.sat(q.Mul(q, big.NewInt(int64(v.Sign()))))
}

// dot sums products exactly, divides by 2^s, and rounds once.
func (m *model) dot(s uint, a, b numbers) *big.Int {
	sum, product := new(big.Int), new(big.Int)
	for k := range b {
		sum.Add(sum, product.Mul(a[k], b[k]))
	}
	return m.divide(sum, new(big.Int).Lsh(big.NewInt(1), s))
}

func (m *model) mul(a, b *big.Int, s uint) *big.Int { return m.dot(s, numbers{a}, numbers{b}) }

func (m *model) add(a, b *big.Int) *big.Int { return m.sat(new(big.Int).Add(a, b)) }

// kept gives numbers within bounds.
func (m *model) kept(l []int64, lo, hi int64) numbers {
	var r numbers
	for _, v := range l {
		r = append(r, m.clamp(big.NewInt(v), lo, hi))
	}
	return r
}

// columns gives U down to its diagonal, a column a list.
func (m *model) columns(p api.Cov) [n]numbers {
	var u [n]numbers
	left := m.kept(p.U[:], -top, top)
	for j := range u {
		u[j] = append(u[j], left[:j]...)
		u[j], left = append(u[j], big.NewInt(one)), left[j:]
	}
	return u
}

// seen is what is reckoned of a covariance: a[0] is r.
type seen struct {
	u          [n]numbers
	d, f, v, a numbers
}

func (m *model) look(p api.Cov, h bierman.Row, r int64) seen {
	s := seen{u: m.columns(p), d: m.kept(p.D[:], 1, dMost), a: m.kept([]int64{r}, 1, dMost)}
	l := m.kept(h[:], -top, top)
	for j, column := range s.u {
		f := m.dot(30, l, column)
		v := m.mul(s.d[j], f, 30)
		s.f, s.v = append(s.f, f), append(s.v, v)
		s.a = append(s.a, m.add(s.a[j], m.mul(f, v, 30)))
	}
	return s
}

func (m *model) update(p api.Cov, h bierman.Row, r int64) learnt {
	s := m.look(p, h, r)
	var b numbers
	got := learnt{all: s.a[n].Int64()}
	for j, column := range s.u {
		part := m.divide(new(big.Int).Mul(s.d[j], s.a[j]), s.a[j+1])
		got.p.D[j] = m.clamp(part, 1, dMost).Int64()
		x := m.divide(new(big.Int).Lsh(s.f[j], 44), s.a[j])
		x = x.Neg(x)
		for i := range j {
			got.p.U[j*(j-1)/2+i] = m.add(column[i], m.mul(b[i], x, 44)).Int64()
			b[i] = m.add(b[i], m.mul(column[i], s.v[j], 30))
		}
		b = append(b, s.v[j])
	}
	for i, v := range b {
		got.k[i] = m.divide(new(big.Int).Lsh(v, 30), s.a[n]).Int64()
	}
	return got
}

// source gives strewn numbers, one after another.
type source struct{ next uint64 }

func (s *source) any() uint64 {
	s.next++
	x := s.next * 0x9e3779b97f4a7c15
	x ^= x >> 29
	x *= 0xbf58476d1ce4e5b9
	return x ^ x>>32
}

// bits gives a number of 64 bits of which the given number and up to three more are taken off.
func (s *source) bits(less uint64) int64 { return int64(s.any()) >> (less + s.any()&3) }

// one gives a number from 0 to count - 1.
func (s *source) one(count int64) int64 { return int64(s.any() >> 32 % uint64(count)) }

// cov gives a covariance, with numbers in U and in D that lack some bits.
func (s *source) cov(u, d uint64) api.Cov {
	var p api.Cov
	for k := range p.U {
		p.U[k] = s.bits(u)
	}
	for k := range p.D {
		p.D[k] = s.bits(d)
	}
	return p
}

// good gives a good one.
func (s *source) good(u, d uint64) api.Cov {
	p := s.cov(max(u, 3), d)
	for k, v := range p.D {
		p.D[k] = min(max(v, -v, 1), dMost)
	}
	return p
}

// row gives as many numbers that lack some bits, strewn over the states.
func (s *source) row(count int, less uint64) bierman.Row {
	var h bierman.Row
	for range count {
		h[s.one(n)] = s.bits(less)
	}
	return h
}

// compare tells whether an update sets the flag.
func compare(t *testing.T, p api.Cov, h bierman.Row, r int64) bool {
	t.Helper()
	c, m := &fx.Acc{}, &model{}
	got, want := update(c, p, h, r), m.update(p, h, r)
	if got != want || c.Hit != m.hit {
		t.Fatalf("P11.2: Update of %v by %v, %d: %v, flag %v, not %v, flag %v", p, h, r, got, c.Hit, want, m.hit)
	}
	checkProperties(t, "Update by the model", p, r, got)
	less, first := &fx.Acc{}, &model{}
	first.look(p, h, r)
	if a := bierman.Innovation(less, p, h, r); a != want.all || less.Hit != first.hit {
		t.Fatalf("P11.1: Innovation of %v by %v, %d: %d, flag %v, not %d, flag %v", p, h, r, a, less.Hit, want.all, first.hit)
	}
	return m.hit
}

// compareAll compares updates some of which set the flag and some of which do not, as asked.
func compareAll(t *testing.T, count int, clean, hit bool, next func(s *source, i uint64) (api.Cov, bierman.Row, int64)) {
	t.Helper()
	s, hits := &source{}, 0
	for i := range count {
		p, h, r := next(s, uint64(i))
		if compare(t, p, h, r) {
			hits++
		}
	}
	if hit != (hits > 0) || clean != (hits < count) {
		t.Errorf("%d of %d updates set the flag", hits, count)
	}
}

// Numbers of each length, those that may not be among them.
func TestByModel(t *testing.T) {
	compareAll(t, 600, false, true, func(s *source, i uint64) (api.Cov, bierman.Row, int64) {
		return s.cov(i%60, i*11%61), s.row(int(i%30), i*7%59), s.bits(i * 13 % 60)
	})
}

// Ordinary ones: good covariances, of which some states are measured.
func TestOrdinaryByModel(t *testing.T) {
	compareAll(t, 600, true, false, func(s *source, i uint64) (api.Cov, bierman.Row, int64) {
		r := s.bits(14 + i%5)
		return s.good(34+i%20, 18+i%5), s.row(int(i%7), 34), max(r, -r, dOne)
	})
}

// Good ones that go beyond their bounds, some by a single number.
func TestFarByModel(t *testing.T) {
	compareAll(t, 600, true, true, func(s *source, i uint64) (api.Cov, bierman.Row, int64) {
		return s.good(34-i%20, 10+i%40), s.row(int(i%4), 25+i%30), 1 + s.one(1<<20)<<(i%37)
	})
}

// Numbers whose products end about a half, where it shows what is rounded, and when.
func TestHalvesByModel(t *testing.T) {
	compareAll(t, 600, true, true, func(s *source, i uint64) (api.Cov, bierman.Row, int64) {
		var p api.Cov
		var h bierman.Row
		for k := range p.U {
			p.U[k] = (s.one(9)-4)*(one/8) + s.one(3) - 1
		}
		for k := range p.D {
			p.D[k] = 1 + s.one(8)<<s.one(30)
		}
		for range i % 5 {
			h[s.one(n)] = (s.one(9)-4)*(one/4) + s.one(3) - 1
		}
		return p, h, 1 + s.one(8)<<(20+s.one(24))
	})
}

// Gains, of numbers of each length.
func TestGainByModel(t *testing.T) {
	s, hits := &source{}, 0
	for i := range uint64(2000) {
		k, y := s.row(n, i%60), s.bits(i*7%64)
		c, m := &fx.Acc{}, &model{}
		by := m.kept([]int64{y}, -top, top)[0]
		var want bierman.Row
		for j, v := range m.kept(k[:], -top, top) {
			want[j] = m.mul(v, by, 30).Int64()
		}
		if got := bierman.Gain(c, k, y); got != want || c.Hit != m.hit {
			t.Fatalf("P11.2: Gain of %v by %d: %v, flag %v, not %v, flag %v", k, y, got, c.Hit, want, m.hit)
		}
		if m.hit {
			hits++
		}
	}
	if hits == 0 || hits == 2000 {
		t.Errorf("%d of 2000 gains set the flag", hits)
	}
}

// product gives U D U', in units of 2^-104, with what it shares of a row: P h, in units of 2^-134.
func product(p api.Cov, h bierman.Row) ([n][n]*big.Int, numbers) {
	u := (&model{}).columns(p)
	var all [n][n]*big.Int
	var shared numbers
	for i := range n {
		sum := new(big.Int)
		for j := range n {
			all[i][j] = new(big.Int)
			for k := max(i, j); k < n; k++ {
				x := new(big.Int).Mul(u[k][i], u[k][j])
				all[i][j].Add(all[i][j], x.Mul(x, big.NewInt(p.D[k])))
			}
			sum.Add(sum, new(big.Int).Mul(all[i][j], big.NewInt(h[j])))
		}
		shared = append(shared, sum)
	}
	return all, shared
}

// near tells whether a number of the format k is a quotient, but for so many of its last places.
func near(got int64, k int, num, den *big.Int, places int64) bool {
	q := new(big.Int).Quo(new(big.Int).Lsh(num, uint(k)), den)
	return q.Sub(q, big.NewInt(got)).CmpAbs(big.NewInt(places)) <= 0
}

// What an update makes are factors of P - P h h' P / s, s is h' P h + r, and the gains are P h / s, but for what rounding takes.
func TestUpdateIsTheFilter(t *testing.T) {
	s := &source{}
	for i := range uint64(60) {
		p, h, r := s.good(34, 18), s.row(int(i%8), 34), dOne/4+s.one(dOne)
		c := &fx.Acc{}
		got := update(c, p, h, r)
		old, shared := product(p, h)
		// In units of 2^-164.
		all := new(big.Int).Lsh(big.NewInt(r), 120)
		for j, v := range shared {
			all.Add(all, new(big.Int).Mul(v, big.NewInt(h[j])))
		}
		unit := new(big.Int).Lsh(big.NewInt(1), 164)
		if c.Hit || !near(got.all, 44, all, unit, 1<<20) {
			t.Fatalf("P11.1: Update %d: the variance is %d, flag %v", i, got.all, c.Hit)
		}
		for a := range n {
			if !near(got.k[a], 30, new(big.Int).Lsh(shared[a], 30), all, 1<<10) {
				t.Fatalf("P11.2: Update %d: the gain at %d is %d", i, a, got.k[a])
			}
			for b := range n {
				// Of P, times the variance, in units of 2^-268.
				left := new(big.Int).Mul(old[a][b], all)
				left.Sub(left, new(big.Int).Mul(shared[a], shared[b]))
				if v := tri.At(c, got.p, a, b); !near(v, 44, left, new(big.Int).Lsh(all, 104), 1<<20) {
					t.Fatalf("P11.2: Update %d: the number at %d, %d is %d", i, a, b, v)
				}
			}
		}
	}
}

// Whatever is handed in, the result is good, D has not grown, and the variance is not less than r.
func TestUpdateIsGood(t *testing.T) {
	s, l := &source{}, edges()
	edge := func() int64 { return l[s.one(int64(len(l)))] }
	for i := range 4000 {
		var p api.Cov
		var h bierman.Row
		for k := range p.U {
			p.U[k] = edge()
		}
		for k := range p.D {
			p.D[k] = edge()
		}
		for range i % 30 {
			h[s.one(n)] = edge()
		}
		r := edge()
		checkProperties(t, "Update of edges", p, r, update(&fx.Acc{}, p, h, r))
		if i%10 == 0 {
			compare(t, p, h, r)
		}
	}
}
