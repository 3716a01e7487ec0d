package rot_test

import (
	"math"
	"testing"

	"astrolabe/fx"
	"astrolabe/quat"
	"astrolabe/rot"
	"astrolabe/trig"
	"astrolabe/vec"
)

// The tests of this file hold the calls against what the turns that they stand for do, which no rounding leads far from.

// farthest gives the greatest distance between two vectors' components.
func farthest(a, b vec.V) int64 {
	d := int64(0)
	for i := range a {
		d = max(d, fx.Abs(a[i]-b[i]))
	}
	return d
}

// units gives quaternions of length 1: those of whole parts, and strewn ones.
func units() []quat.Quat {
	c := &fx.Acc{}
	l := []quat.Quat{quat.One(), five()}
	for n := range int64(3 * 3 * 3 * 3) {
		l = append(l, quat.Unit(c, quat.Quat{n%3 - 1, n/3%3 - 1, n/9%3 - 1, n/27 - 1}))
	}
	for i := range uint64(2000) {
		l = append(l, quat.Unit(c, quat.Quat{sized(i * 4), sized(i*4 + 1), sized(i*4 + 2), sized(i*4 + 3)}))
	}
	return l
}

// vectors gives some from the shortest to those whose length is just within Max.
func vectors() []vec.V {
	l := []vec.V{{}, {1, 0, 0}, {0, one, 0}, {0, 0, -one}, {top / 2, -top / 2, top / 2}}
	for k := uint64(4); k < 64; k += 5 {
		l = append(l, vec.V{strewn(k) >> k, strewn(k+100) >> k, strewn(k+200) >> k})
	}
	return l
}

func TestBackIsUndone(t *testing.T) {
	c := &fx.Acc{}
	for _, q := range units() {
		m := rot.Of(c, q)
		for _, v := range vectors() {
			// What a matrix is rounded by counts as often as the vector is long.
			bound := vec.Norm(c, v)>>26 + 4
			if got := rot.Apply(c, m, rot.Back(c, m, v)); farthest(got, v) > bound {
				t.Fatalf("P7.4: Apply of Back of %v by %v is %v", v, q, got)
			}
			if got := rot.Back(c, m, rot.Apply(c, m, v)); farthest(got, v) > bound {
				t.Fatalf("P7.4: Back of Apply of %v by %v is %v", v, q, got)
			}
		}
	}
	if c.Hit {
		t.Error("P7.4: turns of vectors within Max set the flag")
	}
}

// A vector is turned as by the quaternion's products on both its sides.
func TestApplyTurnsAsTheQuaternion(t *testing.T) {
	c := &fx.Acc{}
	v := vec.V{3 * one, -one / 2, 7}
	for _, q := range units() {
		m := rot.Of(c, q)
		r := quat.Chain(c, q, quat.Quat{0, v[0], v[1], v[2]}, quat.Conj(q))
		if got := rot.Apply(c, m, v); farthest(got, vec.V{r[1], r[2], r[3]}) > 32 {
			t.Fatalf("P7.1: Apply by %v is %v, not near %v", q, got, r)
		}
		r = quat.Chain(c, quat.Conj(q), quat.Quat{0, v[0], v[1], v[2]}, q)
		if got := rot.Back(c, m, v); farthest(got, vec.V{r[1], r[2], r[3]}) > 32 {
			t.Fatalf("P7.1: Back by %v is %v, not near %v", q, got, r)
		}
	}
}

func TestYawOfFromYaw(t *testing.T) {
	c := &fx.Acc{}
	at := func(a int64) {
		t.Helper()
		want := trig.Wrap(a)
		got := rot.Yaw(c, rot.FromYaw(c, a))
		// A half turn to the left is one to the right.
		if fx.Abs(trig.Wrap(got-want)) > 40 {
			t.Fatalf("P7.4: Yaw of FromYaw of %d is %d, not near %d", a, got, want)
		}
	}
	for a := int64(-2 * turn); a <= 2*turn; a += 1234567 {
		at(a)
	}
	for k := int64(-8); k <= 8; k++ {
		for off := int64(-50); off <= 50; off++ {
			at(k*(quarter/2) + off)
		}
	}
	for i := range uint64(2000) {
		at(sized(i))
	}
	for _, a := range edges() {
		at(a)
	}
	if c.Hit {
		t.Error("P7.4: Yaw and FromYaw of angles set the flag")
	}
}

// The numbers are those of the exact turn.
func TestExpIsTheTurn(t *testing.T) {
	c := &fx.Acc{}
	for i := range uint64(4000) {
		// Up to 4 in each component, and as short as 2^-24.
		k := 32 + i%28
		v := vec.V{strewn(i*3) >> k, strewn(i*3+1) >> k, strewn(i*3+2) >> k}
		x, y, z := float64(v[0]), float64(v[1]), float64(v[2])
		n := math.Sqrt(x*x + y*y + z*z)
		if n == 0 {
			continue
		}
		sine, cosine := math.Sincos(n / one / 2)
		q := rot.Exp(c, v)
		for j, want := range []float64{cosine * one, sine * x / n * one, sine * y / n * one, sine * z / n * one} {
			// A short vector's rounded length is as rough as the vector.
			if math.Abs(float64(q[j])-want) > 48 {
				t.Fatalf("P7.2: Exp of %v is %v: number %d is not near %f", v, q, j, want)
			}
		}
	}
	if c.Hit {
		t.Error("P7.2: Exp of short vectors sets the flag")
	}
}

func TestTiltMakesUpright(t *testing.T) {
	c := &fx.Acc{}
	for i := range uint64(4000) {
		k := 8 + i%24
		f := vec.V{strewn(i*3) >> k, strewn(i*3+1) >> k, strewn(i*3+2) >> k}
		n := vec.Norm(c, f)
		if one-c.Div(f[2], n, 30) < one/64 {
			continue // on its back, where what is left of the numbers is rough
		}
		q := rot.Tilt(c, f)
		u := vec.V{c.Div(f[0], n, 30), c.Div(f[1], n, 30), c.Div(f[2], n, 30)}
		if got := rot.Apply(c, rot.Of(c, q), u); farthest(got, vec.V{0, 0, -one}) > 64 {
			t.Fatalf("P7.3: Tilt of %v is %v, which turns it to %v", f, q, got)
		}
		if q[3] != 0 || q[0] < 0 {
			t.Fatalf("P7.3: Tilt of %v is %v, which turns about more than a level axis", f, q)
		}
	}
}
