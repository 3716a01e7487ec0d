package downs_test

import (
	"fmt"
	"math"
	"slices"
	"testing"

	"astrolabe/api"
	"astrolabe/downs"
	"astrolabe/fx"
)

const (
	least64 = math.MinInt64
	most64  = math.MaxInt64
	most    = 1 << 35 // of Angle and Dv
	latest  = 1 << 50
	longest = 100_000
)

// imu is a sample of a time, with as many of its numbers as are told: those of Angle, and those of Dv after them.
func imu(t, dt int64, l ...int64) api.Imu {
	i := api.Imu{T: t, Dt: dt}
	for k, x := range l {
		set(&i, k, x)
	}
	return i
}

// set writes one of the six numbers.
func set(i *api.Imu, k int, x int64) {
	if k < 3 {
		i.Angle[k] = x
	} else {
		i.Dv[k-3] = x
	}
}

// row is a Put and what it must answer, with what is pending after it.
type row struct {
	given   api.Imu
	want    api.Imu
	whole   bool
	errno   api.Errno
	pending int64
}

// more is a Put after which something is pending.
func more(i api.Imu, pending int64) row { return row{given: i, pending: pending} }

// whole is a Put that answers a sample.
func whole(i, want api.Imu) row { return row{given: i, want: want, whole: true} }

// wrong is a Put of what may not be.
func wrong(i api.Imu, pending int64) row { return row{given: i, errno: api.EARG, pending: pending} }

func made(t *testing.T, target int64) *downs.Sampler {
	t.Helper()
	s, e := downs.New(target)
	if e != api.OK || s == nil {
		t.Fatalf("P14.1: New(%d): %v, %d", target, s, e)
	}
	return s
}

// hold makes the Puts of a new sampler, with a flag that is set or not. Nothing here is clamped, so that the flag stays.
func hold(t *testing.T, name string, target int64, flag bool, l []row) {
	t.Helper()
	s, c := made(t, target), &fx.Acc{Hit: flag}
	if got := s.Pending(); got != 0 {
		t.Fatalf("P14.1: %s, new: Pending %d", name, got)
	}
	for k, r := range l {
		i, ok, e := s.Put(c, r.given)
		if i != r.want || ok != r.whole || e != r.errno {
			t.Fatalf("P14.1: %s, line %d: Put(%v): %v, %v, %d, not %v, %v, %d", name, k, r.given, i, ok, e, r.want, r.whole, r.errno)
		}
		for range 2 {
			if got := s.Pending(); got != r.pending {
				t.Fatalf("P14.1: %s, line %d: Pending %d, not %d", name, k, got, r.pending)
			}
		}
		if c.Hit != flag {
			t.Fatalf("R5: %s, line %d: Put(%v): flag %v, not %v", name, k, r.given, c.Hit, flag)
		}
	}
}

// check holds the Puts with either flag, and those of them that are right without the others: what is wrong has no effect.
func check(t *testing.T, name string, target int64, l ...row) {
	t.Helper()
	right := slices.DeleteFunc(slices.Clone(l), func(r row) bool { return r.errno != api.OK })
	for _, flag := range []bool{false, true} {
		hold(t, name, target, flag, l)
		hold(t, name+", what is wrong left away", target, flag, right)
	}
}

func TestNew(t *testing.T) {
	for target := int64(1000); target <= longest; target += 1 + target%97 {
		s, c := made(t, target), &fx.Acc{}
		if s.Pending() != 0 {
			t.Errorf("P14.1: New(%d): Pending %d", target, s.Pending())
		}
		if _, ok, e := s.Put(c, imu(1, target-1)); ok || e != api.OK || s.Pending() != target-1 {
			t.Errorf("P14.1: New(%d): Put of one less: %v, %d, Pending %d", target, ok, e, s.Pending())
		}
		if i, ok, e := s.Put(c, imu(2, 1)); i != imu(2, target) || !ok || e != api.OK || s.Pending() != 0 {
			t.Errorf("P14.1: New(%d): Put of the last: %v, %v, %d, Pending %d", target, i, ok, e, s.Pending())
		}
		if i, ok, e := s.Put(c, imu(3, target)); i != imu(3, target) || !ok || e != api.OK || s.Pending() != 0 {
			t.Errorf("P14.1: New(%d): Put of all at once: %v, %v, %d, Pending %d", target, i, ok, e, s.Pending())
		}
	}
	made(t, 1000)
	made(t, longest)
	for _, target := range []int64{999, 998, 1, 0, -1, -1000, -longest, longest + 1, longest + 2, 1<<32 + 5000, -1<<32 + 5000, least64, least64 + 1, most64, most64 - 1} {
		if s, e := downs.New(target); s != nil || e != api.EARG {
			t.Errorf("P14.1: New(%d): %v, %d", target, s, e)
		}
	}
}

// What the chapter tells as examples.
func TestExamples(t *testing.T) {
	check(t, "the examples", 8000,
		more(imu(4000, 4000), 4000),
		whole(imu(8000, 4000), imu(8000, 8000)),
	)
	alone := imu(7, 5, 1, -2, 3, -4, 5, -6)
	if i, e := downs.Join(&fx.Acc{}, alone); i != alone || e != api.OK {
		t.Errorf("P14.1: Join of %v: %v, %d", alone, i, e)
	}
}

func TestPut(t *testing.T) {
	check(t, "Put", 1000,
		more(imu(10, 400, 1, 20, 300, -4, -50, -600), 400),
		more(imu(11, 599, 1000, 100, 10, 7, 8, 9), 999),
		whole(imu(30, 1, 5, 5, 5, 5, 5, 5), imu(30, 1000, 1006, 125, 315, 8, -37, -586)),
		// What was pending is gone.
		more(imu(31, 999, 2), 999),
		whole(imu(32, 999, 0, 3), imu(32, 1998, 2, 3)),
		whole(imu(33, 1000, 0, 0, 4), imu(33, 1000, 0, 0, 4)),
		whole(imu(34, 1001, 0, 0, 0, 5), imu(34, 1001, 0, 0, 0, 5)),
		more(imu(35, 1, 0, 0, 0, 0, 6), 1),
		more(imu(36, 1, 0, 0, 0, 0, 0, 7), 2),
		whole(imu(37, longest), imu(37, longest+2, 0, 0, 0, 0, 6, 7)),
		more(imu(38, 999), 999),
	)
	// The time that is told need not go on as Dt says.
	check(t, "Put at any time", 1000,
		more(imu(0, 600, 3), 600),
		whole(imu(1, 600, 4), imu(1, 1200, 7)),
		more(imu(latest-1, 999, 5), 999),
		whole(imu(latest, 1, 6), imu(latest, 1000, 11)),
	)
	check(t, "Put of the last time first", longest,
		more(imu(latest, longest-1), longest-1),
		wrong(imu(latest, 1), longest-1),
		wrong(imu(latest+1, 1), longest-1),
	)
	check(t, "Put of the most", longest,
		more(imu(5, longest-1, most, -most, most, -most, most, -most), longest-1),
		whole(imu(6, longest, most, -most, most, -most, most, -most), imu(6, 2*longest-1, 2*most, -2*most, 2*most, -2*most, 2*most, -2*most)),
		whole(imu(7, longest, -most, most, -most, most, -most, most), imu(7, longest, -most, most, -most, most, -most, most)),
	)
}

// Each number is added at its place.
func TestPutAtEachPlace(t *testing.T) {
	for k := range 6 {
		for _, x := range []int64{1, -1, 12345, -12345, most, -most} {
			a, b, want := imu(1, 600), imu(2, 600), imu(2, 1200)
			set(&a, k, x)
			set(&b, k, x)
			set(&want, k, 2*x)
			check(t, fmt.Sprintf("Put of %d at place %d", x, k), 1000, more(a, 600), whole(b, want))
			set(&b, k, -x)
			set(&want, k, 0)
			check(t, fmt.Sprintf("Put of %d at place %d, and back", x, k), 1000, more(a, 600), whole(b, want))
		}
	}
}

// The time of a sample must be after that of the one that was accepted last, whatever became of it.
func TestPutByTime(t *testing.T) {
	check(t, "Put by time", 1000,
		more(imu(100, 300, 1), 300),
		wrong(imu(100, 300, 2), 300),
		wrong(imu(99, 300, 2), 300),
		wrong(imu(0, 300, 2), 300),
		wrong(imu(0, 1000, 2), 300),
		more(imu(101, 300, 4), 600),
		wrong(imu(101, 300, 8), 600),
		wrong(imu(100, 400, 8), 600),
		whole(imu(102, 400, 16), imu(102, 1000, 21)),
		wrong(imu(102, 1000, 32), 0),
		wrong(imu(102, 1, 32), 0),
		wrong(imu(1, 1, 32), 0),
		more(imu(103, 1, 64), 1),
	)
	// The time of what was refused does not count.
	check(t, "Put by the time of what is good", 1000,
		more(imu(100, 300, 1), 300),
		wrong(imu(300, 0, 2), 300),
		wrong(imu(400, longest+1, 2), 300),
		wrong(imu(500, 1, most+1), 300),
		wrong(imu(latest+1, 1, 2), 300),
		more(imu(101, 1, 4), 301),
		wrong(imu(most64, 1, 8), 301),
		wrong(imu(least64, 1, 8), 301),
		whole(imu(102, 699, 16), imu(102, 1000, 21)),
	)
	// The first one may be at 0, and not before it.
	check(t, "Put from 0 on", 1000,
		wrong(imu(-1, 1), 0),
		wrong(imu(least64, 1), 0),
		wrong(imu(1, 0), 0),
		whole(imu(0, 1000, 1), imu(0, 1000, 1)),
		wrong(imu(0, 1000, 2), 0),
		whole(imu(1, 1000, 4), imu(1, 1000, 4)),
	)
}

// outside gives what may not be, each at its bound and beyond it: all else of it is right.
func outside() []api.Imu {
	var l []api.Imu
	for _, dt := range []int64{0, -1, -5, longest + 1, longest + 2, 1<<32 + 5, -1<<32 + 5, least64, least64 + 1, most64, most64 - 1} {
		l = append(l, imu(500, dt, 1, 2, 3, 4, 5, 6))
	}
	for _, t := range []int64{-1, -2, -500, latest + 1, latest + 2, least64, least64 + 500, most64, most64 - 1} {
		l = append(l, imu(t, 50, 1, 2, 3, 4, 5, 6))
	}
	for k := range 6 {
		for _, x := range []int64{most + 1, most + 2, -most - 1, -most - 2, 1 << 36, api.Max, -api.Max, 1<<40 + 5, least64, least64 + 1, most64, most64 - 1} {
			i := imu(500, 50, 1, 2, 3, 4, 5, 6)
			set(&i, k, x)
			l = append(l, i)
		}
	}
	return l
}

// inside gives what may be, just within the bounds.
func inside() []api.Imu {
	var l []api.Imu
	for _, dt := range []int64{1, 2, 999, 1000, longest - 1, longest} {
		l = append(l, imu(500, dt, 1, 2, 3, 4, 5, 6))
	}
	for _, t := range []int64{0, 1, 2, 1 << 32, latest - 1, latest} {
		l = append(l, imu(t, 50, 1, 2, 3, 4, 5, 6))
	}
	for k := range 6 {
		for _, x := range []int64{most, most - 1, 0, -1, 1, 1 - most, -most} {
			i := imu(500, 50, 1, 2, 3, 4, 5, 6)
			set(&i, k, x)
			l = append(l, i)
		}
	}
	return append(l, imu(0, 1), imu(latest, longest, most, most, most, most, most, most), imu(0, 1, -most, -most, -most, -most, -most, -most))
}

func TestGood(t *testing.T) {
	for _, i := range inside() {
		if !downs.Good(i) {
			t.Errorf("P14.1: Good(%v) answers false", i)
		}
		check(t, "Put of what is good", longest, putOne(i))
		if got, e := downs.Join(&fx.Acc{}, i); got != i || e != api.OK {
			t.Errorf("P14.1: Join of %v: %v, %d", i, got, e)
		}
	}
	for _, i := range outside() {
		if downs.Good(i) {
			t.Errorf("P14.1: Good(%v) answers true", i)
		}
		check(t, "Put of what is not good", 1000, wrong(i, 0),
			more(imu(1, 999, 7), 999), wrong(i, 999), whole(imu(2, 1, 8), imu(2, 1000, 15)), wrong(i, 0))
		for _, flag := range []bool{false, true} {
			for _, l := range [][]api.Imu{{i}, {imu(0, 5), i}, {i, imu(latest, 5)}, {imu(0, 5), i, imu(latest, 5)}, {i, i}} {
				c := &fx.Acc{Hit: flag}
				if got, e := downs.Join(c, l...); got != (api.Imu{}) || e != api.EARG || c.Hit != flag {
					t.Errorf("P14.1: Join of %v: %v, %d, flag %v", l, got, e, c.Hit)
				}
			}
		}
	}
	if downs.Good(api.Imu{}) {
		t.Errorf("P14.1: Good of what is zero answers true")
	}
}

// putOne is a Put of a sample into a new sampler of the greatest target.
func putOne(i api.Imu) row {
	if i.Dt == longest {
		return whole(i, i)
	}
	return more(i, i.Dt)
}

func TestJoin(t *testing.T) {
	a, b, d := imu(5, 10, 1, 20, 300, -4, -50, -600), imu(6, 20, 1000, 100, 10, 7, 8, 9), imu(9, longest, 5, 5, 5, 5, 5, 5)
	big := imu(latest, longest, most, -most, most, -most, most, -most)
	for _, x := range []struct {
		l     []api.Imu
		want  api.Imu
		errno api.Errno
	}{
		{nil, api.Imu{}, api.EARG},
		{[]api.Imu{}, api.Imu{}, api.EARG},
		{[]api.Imu{a}, a, api.OK},
		{[]api.Imu{big}, big, api.OK},
		{[]api.Imu{a, b}, imu(6, 30, 1001, 120, 310, 3, -42, -591), api.OK},
		{[]api.Imu{b, d}, imu(9, longest+20, 1005, 105, 15, 12, 13, 14), api.OK},
		{[]api.Imu{a, b, d}, imu(9, longest+30, 1006, 125, 315, 8, -37, -586), api.OK},
		{[]api.Imu{d, big}, imu(latest, 2*longest, most+5, 5-most, most+5, 5-most, most+5, 5-most), api.OK},
		{[]api.Imu{imu(0, 1), imu(1, 1), imu(latest, 1)}, imu(latest, 3), api.OK},
		// The times must rise, from each to the next.
		{[]api.Imu{a, a}, api.Imu{}, api.EARG},
		{[]api.Imu{b, a}, api.Imu{}, api.EARG},
		{[]api.Imu{big, big}, api.Imu{}, api.EARG},
		{[]api.Imu{a, d, b}, api.Imu{}, api.EARG},
		{[]api.Imu{b, a, d}, api.Imu{}, api.EARG},
		{[]api.Imu{b, d, a}, api.Imu{}, api.EARG},
		{[]api.Imu{d, a, b}, api.Imu{}, api.EARG},
		{[]api.Imu{a, a, b}, api.Imu{}, api.EARG},
		{[]api.Imu{a, b, b}, api.Imu{}, api.EARG},
		{[]api.Imu{a, b, a}, api.Imu{}, api.EARG},
		{[]api.Imu{imu(0, 1), imu(0, 1)}, api.Imu{}, api.EARG},
	} {
		for _, flag := range []bool{false, true} {
			c := &fx.Acc{Hit: flag}
			for range 2 {
				if got, e := downs.Join(c, x.l...); got != x.want || e != x.errno || c.Hit != flag {
					t.Errorf("P14.1: Join of %v: %v, %d, flag %v, not %v, %d, flag %v", x.l, got, e, c.Hit, x.want, x.errno, flag)
				}
			}
		}
	}
}

// rising gives samples of rising times.
func rising(count int) []api.Imu {
	var l []api.Imu
	for i := range int64(count) {
		l = append(l, imu(i*3, longest, most, -most, i, -i, 1, most-i))
	}
	return l
}

// Any number of samples is joined, however great the sum; one that is wrong, wherever it stands, makes it wrong.
func TestJoinOfMany(t *testing.T) {
	c := &fx.Acc{}
	for _, n := range []int64{2, 3, 10, 63, 64, 65, 100, 101, 1000, 50000} {
		got, e := downs.Join(c, rising(int(n))...)
		rise := n * (n - 1) / 2
		want := imu(3*(n-1), n*longest, n*most, -n*most, rise, -rise, n, n*most-rise)
		if got != want || e != api.OK || c.Hit {
			t.Errorf("P14.1: Join of %d: %v, %d, flag %v, not %v", n, got, e, c.Hit, want)
		}
	}
	for k := range 120 {
		l := rising(120)
		l[k].Dt = 0
		if got, e := downs.Join(c, l...); got != (api.Imu{}) || e != api.EARG {
			t.Errorf("P14.1: Join with sample %d not good: %v, %d", k, got, e)
		}
		l = rising(120)
		l[k].T = l[max(0, k-1)].T
		if got, e := downs.Join(c, l...); k > 0 && (got != (api.Imu{}) || e != api.EARG) {
			t.Errorf("P14.1: Join with sample %d at the time of the one before: %v, %d", k, got, e)
		}
	}
}

// As many samples as may be pending, of the greatest numbers: nothing is clamped.
func TestPutOfMany(t *testing.T) {
	s, c := made(t, longest), &fx.Acc{}
	for k := int64(1); k <= longest; k++ {
		i, ok, e := s.Put(c, imu(k, 1, most, -most, -most, most, -1, 1))
		var want api.Imu
		if k == longest {
			want = imu(k, k, k*most, -k*most, -k*most, k*most, -k, k)
		}
		if i != want || ok != (k == longest) || e != api.OK || s.Pending() != k%longest || c.Hit {
			t.Fatalf("P14.1: Put of sample %d: %v, %v, %d, Pending %d, flag %v", k, i, ok, e, s.Pending(), c.Hit)
		}
	}
}

// What is handed in stays as it was, with what lies behind it, and is not kept.
func TestJoinLeavesItsListAlone(t *testing.T) {
	all := rising(9)
	was := slices.Clone(all)
	for _, l := range [][]api.Imu{all[:0], all[:1], all[1:4], all[:9]} {
		downs.Join(&fx.Acc{}, l...)
		if !slices.Equal(all, was) {
			t.Fatalf("R4: Join made %v of %v", all, was)
		}
	}
	got, _ := downs.Join(&fx.Acc{}, all[:4]...)
	want := got
	clear(all)
	if again, e := downs.Join(&fx.Acc{}, was[:4]...); got != want || again != want || e != api.OK {
		t.Errorf("R4: Join: %v, and %v after the list was changed", want, again)
	}
}

// Samplers have nothing to do with each other, nor has Join with them.
func TestSamplersAreApart(t *testing.T) {
	c := &fx.Acc{}
	a, b := made(t, 1000), made(t, 1000)
	a.Put(c, imu(50, 600, 1))
	if b.Pending() != 0 {
		t.Errorf("P14.1: Pending %d of another sampler", b.Pending())
	}
	downs.Join(c, imu(60, 600, 2), imu(70, 600, 4))
	if i, ok, e := b.Put(c, imu(3, 700, 8)); i != (api.Imu{}) || ok || e != api.OK || a.Pending() != 600 || b.Pending() != 700 {
		t.Errorf("P14.1: Put into another: %v, %v, %d, Pending %d and %d", i, ok, e, a.Pending(), b.Pending())
	}
	if i, ok, e := a.Put(c, imu(51, 600, 16)); i != imu(51, 1200, 17) || !ok || e != api.OK || b.Pending() != 700 {
		t.Errorf("P14.1: Put: %v, %v, %d, Pending %d of another", i, ok, e, b.Pending())
	}
}

// A flag that another call has set stays, and no Put hangs on it, or on which Acc it is given.
func TestPutWithOthersFlags(t *testing.T) {
	s := made(t, 1000)
	set, unset := &fx.Acc{Hit: true}, &fx.Acc{}
	s.Put(set, imu(1, 600, 5))
	i, ok, e := s.Put(unset, imu(2, 600, 6))
	if i != imu(2, 1200, 11) || !ok || e != api.OK || !set.Hit || unset.Hit {
		t.Errorf("R5: Put: %v, %v, %d, flags %v and %v", i, ok, e, set.Hit, unset.Hit)
	}
}
