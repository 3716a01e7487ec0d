package downs_test

import (
	"fmt"
	"testing"

	"astrolabe/api"
	"astrolabe/downs"
	"astrolabe/fx"
)

// The tests of this file hold samplers against a list of all that was accepted, which is summed from its start each time.

// source gives strewn numbers, one after another.
type source struct{ next uint64 }

func (s *source) any() uint64 {
	s.next++
	x := s.next * 0x9e3779b97f4a7c15
	x ^= x >> 29
	x *= 0xbf58476d1ce4e5b9
	return x ^ x>>32
}

// from gives a number from least to greatest.
func (s *source) from(least, greatest int64) int64 {
	return least + int64(s.any()>>1%uint64(greatest-least+1))
}

// sample gives a good one of a time.
func (s *source) sample(t, longest int64) api.Imu {
	i := imu(t, s.from(1, longest))
	for k := range 6 {
		set(&i, k, s.from(-most, most)>>s.from(0, 36))
	}
	return i
}

// spoil makes one of the numbers of a sample such as may not be.
func (s *source) spoil(i api.Imu) api.Imu {
	beyond := s.from(1, 3) << s.from(0, 26)
	switch k := s.from(0, 9); k {
	case 6:
		i.Dt = 1 - beyond
	case 7:
		i.Dt = longest + beyond
	case 8:
		i.T = -beyond
	case 9:
		i.T = latest + beyond
	default:
		x := most + beyond
		if s.from(0, 1) == 0 {
			x = -x
		}
		set(&i, int(k), x)
	}
	return i
}

// part is a sample that came out, and how many had been accepted by then.
type part struct {
	sample api.Imu
	upto   int
}

// sumOf adds samples, number by number.
func sumOf(l []api.Imu) api.Imu {
	var sum api.Imu
	for _, i := range l {
		sum.T = i.T
		sum.Dt += i.Dt
		for k := range 3 {
			sum.Angle[k] += i.Angle[k]
			sum.Dv[k] += i.Dv[k]
		}
	}
	return sum
}

// parts tells what must come out of a sampler of some target, and what must be pending.
func parts(target int64, accepted []api.Imu) ([]part, int64) {
	var l []part
	from := 0
	for n := range accepted {
		if sum := sumOf(accepted[from : n+1]); sum.Dt >= target {
			l, from = append(l, part{sum, n + 1}), n+1
		}
	}
	return l, sumOf(accepted[from:]).Dt
}

// walk makes many Puts of a sampler, some of them wrong, and tells what was accepted and what came out.
func walk(t *testing.T, target, longest int64, steps int, s *source) ([]api.Imu, []part) {
	t.Helper()
	d, c := made(t, target), &fx.Acc{}
	var accepted []api.Imu
	var out []part
	time, last := s.from(0, 3), int64(-1)
	for n := range steps {
		i := s.sample(time, longest)
		right := true
		switch s.from(0, 5) {
		case 0:
			i, right = s.spoil(i), false
		case 1:
			i.T = s.from(max(0, last-2), max(0, last+1))
			right = i.T > last
		}
		before := d.Pending()
		got, ok, e := d.Put(c, i)
		if (e == api.OK) != right || e != api.OK && (e != api.EARG || ok || d.Pending() != before) || !ok && got != (api.Imu{}) || c.Hit {
			t.Fatalf("P14.1: target %d, step %d: Put(%v) after %d: %v, %v, %d, flag %v, Pending %d, not %d", target, n, i, last, got, ok, e, c.Hit, d.Pending(), before)
		}
		if e == api.OK {
			accepted, last = append(accepted, i), i.T
		}
		if ok {
			out = append(out, part{got, len(accepted)})
		}
		want, pending := parts(target, accepted)
		if fmt.Sprint(out) != fmt.Sprint(want) || d.Pending() != pending {
			t.Fatalf("P14.1: target %d, step %d: %v came out, Pending %d, not %v and %d", target, n, out, d.Pending(), want, pending)
		}
		time = max(time, last+1) + s.from(0, 2)<<s.from(0, 40)
	}
	return accepted, out
}

// Each sample that comes out is the Join of those accepted since the one before, and no time is lost.
func TestPutByModel(t *testing.T) {
	s := &source{}
	accepted, out, refused := 0, 0, 0
	for k := range 400 {
		target := s.from(1000, 3000)
		if k%10 == 0 {
			target = s.from(1000, longest)
		}
		span := s.from(1, longest)
		if k%3 > 0 {
			span = s.from(1, target)
		}
		l, parts := walk(t, target, span, 60, s)
		joined(t, target, l, parts)
		accepted, out, refused = accepted+len(l), out+len(parts), refused+60-len(l)
	}
	if refused < 3000 || out < 3000 || accepted-out < 3000 {
		t.Errorf("not all may happen: %d accepted, %d out, %d refused", accepted, out, refused)
	}
}

// joined holds what came out of a sampler against Join.
func joined(t *testing.T, target int64, accepted []api.Imu, out []part) {
	t.Helper()
	from, returned := 0, int64(0)
	for _, p := range out {
		if got, e := downs.Join(&fx.Acc{}, accepted[from:p.upto]...); got != p.sample || e != api.OK {
			t.Fatalf("P14.2: target %d: %v came out, but Join of %v: %v, %d", target, p.sample, accepted[from:p.upto], got, e)
		}
		from, returned = p.upto, returned+p.sample.Dt
	}
	d := made(t, target)
	for _, i := range accepted {
		d.Put(&fx.Acc{}, i)
	}
	if got := returned + d.Pending(); got != sumOf(accepted).Dt {
		t.Fatalf("P14.2: target %d: %d were accepted, but %d came out and %d is pending", target, sumOf(accepted).Dt, returned, d.Pending())
	}
}

// Join by parts is Join of all while the parts are good themselves, and what is not good or out of order is refused.
func TestJoinByModel(t *testing.T) {
	s, c := &source{}, &fx.Acc{}
	for range 3000 {
		var l []api.Imu
		time := s.from(0, 5)
		for range s.from(1, 12) {
			l = append(l, s.sample(time, 5000))
			time += 1 + s.from(0, 2)<<s.from(0, 40)
		}
		all, e := downs.Join(c, l...)
		if all != sumOf(l) || e != api.OK || c.Hit {
			t.Fatalf("P14.1: Join of %v: %v, %d, not %v", l, all, e, sumOf(l))
		}
		k := int(s.from(0, int64(len(l)-1)))
		head, _ := downs.Join(c, l[:k+1]...)
		if got, e := downs.Join(c, append([]api.Imu{head}, l[k+1:]...)...); downs.Good(head) && (got != all || e != api.OK) {
			t.Fatalf("P14.1: Join of %v, the first %d joined ahead: %v, %d", l, k+1, got, e)
		}
		was := l[k]
		l[k] = s.spoil(was)
		if got, e := downs.Join(c, l...); got != (api.Imu{}) || e != api.EARG || downs.Good(l[k]) {
			t.Fatalf("P14.1: Join of %v: %v, %d", l, got, e)
		}
		l[k] = was
		if i, j := int(s.from(0, int64(len(l)-1))), k; i != j {
			l[i], l[j] = l[j], l[i]
			if got, e := downs.Join(c, l...); got != (api.Imu{}) || e != api.EARG {
				t.Fatalf("P14.1: Join out of order of %v: %v, %d", l, got, e)
			}
		}
	}
}
