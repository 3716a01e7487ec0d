package earth_test

import (
	"math/big"
	"testing"

	"astrolabe/earth"
	"astrolabe/fx"
	"astrolabe/trig"
	"astrolabe/vec"
)

// The tests of this file hold each call against the chapter's steps in big numbers, about the edges and at places strewn between them.

// strewn gives a number that hangs on its place alone.
func strewn(i uint64) int64 {
	x := (i + 1) * 0x9e3779b97f4a7c15
	x ^= x >> 29
	x *= 0xbf58476d1ce4e5b9
	return int64(x ^ x>>32)
}

// within gives a strewn number from -bound to bound: of any length, if it is sized.
func within(i uint64, bound int64, sized bool) int64 {
	a := strewn(i) % (bound + 1)
	if sized {
		return a >> (uint64(strewn(i+1<<32)) % 32)
	}
	return a
}

// mulDiv gives a times b divided by d: of two equally near integers the one farther from 0.
func mulDiv(a, b, d int64) int64 {
	n := new(big.Int).Mul(big.NewInt(a), big.NewInt(b))
	q := new(big.Int).Abs(n)
	q.Lsh(q, 1).Add(q, big.NewInt(d))
	q.Quo(q, big.NewInt(2*d))
	return q.Int64() * int64(n.Sign())
}

func mul(a, b int64) int64 { return mulDiv(a, b, one) }
func div(a, b int64) int64 { return mulDiv(a, one, b) }

// sqrt gives the integer that is nearest to the root of a times 2^30: that of 4 times it has one bit more, by which it is rounded.
func sqrt(a int64) int64 {
	r := new(big.Int).Lsh(big.NewInt(a), 32)
	r.Sqrt(r)
	return r.Rsh(r.Add(r, big.NewInt(1)), 1).Int64()
}

// scaleByModel takes the sine and the cosine from the package that New calls.
func scaleByModel(lat int64) (north, east int64) {
	a := mulDiv(lat, half, equal)
	s, k := trig.Sin(&fx.Acc{}, a), trig.Cos(&fx.Acc{}, a)
	w := one - mul(7188036, mul(s, s))
	r := sqrt(w)
	e := div(6378137<<10, r)
	n := div(mul(6378137<<10, one-7188036), mul(w, r))
	return mulDiv(n, half, equal), mulDiv(mul(e, k), half, equal)
}

func toByModel(o, p earth.Place) vec.V {
	north, east := scaleByModel(o.Lat)
	lon := p.Lon - o.Lon
	for lon > equal {
		lon -= 2 * equal
	}
	for lon <= -equal {
		lon += 2 * equal
	}
	return vec.V{mulDiv(p.Lat-o.Lat, north, 1<<10), mulDiv(lon, east, 1<<10), mulDiv(o.Alt-p.Alt, one, 1000)}
}

// between takes of two steps that meet the one to the west or the south, where the calls may take the other one: the table has one number there.
func between(l []int64, least, step, at int64) int64 {
	i := 0
	for least+step < at {
		i, least = i+1, least+step
	}
	return l[i] + mulDiv(l[i+1]-l[i], at-least, step)
}

func declinationByModel(p earth.Place) int64 {
	var column []int64
	for _, row := range table() {
		for j := range row {
			row[j] *= one
		}
		column = append(column, between(row[:], -1800000000, 600000000, p.Lon))
	}
	return mulDiv(between(column, -900000000, 450000000, p.Lat), half, 18000*one)
}

func compare(t *testing.T, o, p earth.Place) {
	t.Helper()
	f := frame(t, o)
	north, east := f.Scale()
	if n, e := scaleByModel(o.Lat); north != n || east != e {
		t.Fatalf("P8.1: Scale at %v: %d, %d, not %d, %d", o, north, east, n, e)
	}
	checkTo(t, path{o, p, toByModel(o, p)})
	checkDeclination(t, p.Lat, p.Lon, declinationByModel(p))
	if t.Failed() {
		t.FailNow()
	}
}

// about gives numbers from -bound to bound about each multiple of step.
func about(bound, step int64) []int64 {
	var l []int64
	for a := -bound; a <= bound; a += step {
		for off := int64(-3); off <= 3; off++ {
			l = append(l, min(max(a+off, -bound), bound))
		}
	}
	return l
}

// Each origin beside a few places, and each place at the seams of the table.
func TestEdgesByModel(t *testing.T) {
	lons := about(mostLon, 300000000)
	for n, lat := range about(mostLat, 225000000) {
		for k, lon := range lons {
			at := uint64(n*len(lons) + k)
			p := earth.Place{Lat: lat, Lon: lon, Alt: within(at, mostAlt, true)}
			o := earth.Place{Lat: min(max(lat, -mostStart), mostStart), Lon: lons[(k*k+n)%len(lons)], Alt: p.Alt + 1 - 2*int64(at%2)}
			o.Alt = min(max(o.Alt, -mostAlt), mostAlt)
			compare(t, o, p)
		}
	}
	for i, lat := range about(mostStart, 8500000) {
		p := earth.Place{Lat: lat + 1, Lon: lons[i%len(lons)]}
		compare(t, earth.Place{Lat: lat, Lon: lons[i*7%len(lons)]}, p)
	}
}

func TestStrewnByModel(t *testing.T) {
	for i := range uint64(20000) {
		at, sized := i*8, i%2 == 0
		o := earth.Place{Lat: within(at, mostStart, sized), Lon: within(at+1, mostLon, sized), Alt: within(at+2, mostAlt, sized)}
		compare(t, o, earth.Place{Lat: within(at+3, mostLat, sized), Lon: within(at+4, mostLon, sized), Alt: within(at+5, mostAlt, sized)})
		// Near the origin, as a vehicle's places are.
		near := func(k uint64, a, bound int64) int64 {
			return min(max(a+within(at+k, 1000000, true), -bound), bound)
		}
		compare(t, o, earth.Place{Lat: near(6, o.Lat, mostLat), Lon: near(7, o.Lon, mostLon), Alt: near(8, o.Alt, mostAlt)})
	}
}
