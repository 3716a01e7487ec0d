package strap_test

import (
	"math"
	"testing"

	"astrolabe/api"
	"astrolabe/fx"
	"astrolabe/quat"
	"astrolabe/rot"
	"astrolabe/state"
	"astrolabe/strap"
	"astrolabe/vec"
)

// The tests of this file hold many steps against the motion that they stand for, which no rounding leads far from.

// The time of a step is a 64th of a second, which is not rounded.
const (
	dt      = 15625
	seconds = 1.0 / 64
)

// near fails if a number is farther from what it must be than a bound, in the last places.
func near(t *testing.T, name string, got int64, want, bound float64) {
	t.Helper()
	if math.Abs(float64(got)-want) > bound {
		t.Fatalf("%s: %d, not near %f", name, got, want)
	}
}

// gravity is what a body of some attitude feels at rest, of gravity alone.
func gravity(c *fx.Acc, q quat.Quat) vec.V {
	return rot.Back(c, rot.Of(c, q), vec.V{0, 0, -c.Mul(g, strap.Seconds(c, dt), 30)})
}

// resting is the sample of a body at rest whose sensors err by the estimate's biases.
func resting(c *fx.Acc, s api.State) api.Imu {
	d := strap.Seconds(c, dt)
	return api.Imu{
		Dt:    dt,
		Angle: vec.Scale(c, state.Part(s, api.Gyro), d),
		Dv:    vec.Add(c, gravity(c, state.Att(s)), vec.Scale(c, state.Part(s, api.Acc), d)),
	}
}

func TestRestStays(t *testing.T) {
	s, c := &source{}, &fx.Acc{}
	for range 200 {
		e := s.good()
		e = state.With(e, api.Vel, 0, 0, 0)
		e = state.Add(c, e, [24]int64{})
		i, was := resting(c, e), e
		for n := range 200 {
			e = strap.Step(c, e, i)
			// Each step rounds by a last place or two, and the way adds up what the velocity has gathered.
			for k, x := range e {
				bound := 0.0
				switch {
				case k < api.Pos:
					bound = float64(2 * (n + 1))
				case k < api.Gyro:
					bound = float64((n + 1) * (n + 17) / 16)
				}
				near(t, "P16.3: at rest", x, float64(was[k]), bound)
			}
		}
	}
	if c.Hit {
		t.Error("P16.3: a body at rest sets the flag")
	}
}

// Thrown, it falls: its velocity grows by gravity, and its way by the square of the time.
func TestThrownFalls(t *testing.T) {
	c := &fx.Acc{}
	for _, v := range []vec.V{{}, {one, 0, 0}, {0, -20 * one, 0}, {30 * one, 7 * one, -15 * one}} {
		e := rest(api.Vel, v[:]...)
		for n := range 500 {
			e = strap.Step(c, e, api.Imu{Dt: dt})
			time := seconds * float64(n+1)
			for k, x := range v {
				speed, way := float64(x), float64(x)*time
				if k == 2 {
					speed, way = speed+g*time, way+g*time*time/2
				}
				near(t, "P16.2: the velocity of what falls", e[api.Vel+k], speed, float64(n+1))
				near(t, "P16.2: the place of what falls", e[api.Pos+k], way, float64(n+1)*(1+time))
			}
		}
	}
	if c.Hit {
		t.Error("P16.2: what falls sets the flag")
	}
}

// Turned evenly about an axis of its own, a body has turned by the sum of all angles.
func TestEvenTurns(t *testing.T) {
	s, c := &source{}, &fx.Acc{}
	for range 100 {
		e := s.good()
		e = state.With(e, api.Gyro, 0, 0, 0)
		axis := vec.V{s.within(one / 100), s.within(one / 100), s.within(one / 100)}
		start := state.Att(e)
		for n := range int64(100) {
			e = strap.Step(c, e, api.Imu{Angle: axis})
			whole := vec.Scale(c, axis, (n+1)*one)
			want := quat.Mul(c, start, rot.Exp(c, whole))
			for k, x := range state.Att(e) {
				// A short angle's sine is known by as few places as the angle has.
				near(t, "P16.2: the attitude of what turns", x, float64(want[k]), float64(60*(n+1)))
			}
		}
	}
}

// Pushed forward and turned about the axis down, it goes round a circle; the turn of a step comes after its push.
func TestCircle(t *testing.T) {
	c := &fx.Acc{}
	const steps = 1000
	push := vec.V{one / 100, 0, -g / 64}
	var north, east, toNorth, toEast float64
	e := api.State{one}
	for n := range steps {
		was := [2]float64{north, east}
		sine, cosine := math.Sincos(2 * math.Pi / steps * float64(n))
		north, east = north+one/100*cosine, east+one/100*sine
		toNorth, toEast = toNorth+(was[0]+north)*seconds/2, toEast+(was[1]+east)*seconds/2
		e = strap.Step(c, e, api.Imu{Dt: dt, Angle: vec.V{0, 0, 6746519}, Dv: push})
		for k, want := range []float64{north, east, 0} {
			near(t, "P16.2: the velocity on a circle", e[api.Vel+k], want, 4*float64(n+1))
		}
		for k, want := range []float64{toNorth, toEast, 0} {
			near(t, "P16.2: the place on a circle", e[api.Pos+k], want, 64+4*float64(n+1))
		}
	}
	// The velocity has come back to nothing, and the attitude round to the other quaternion of the same.
	near(t, "P16.2: the attitude behind a whole turn", e[0], -one, 16)
	near(t, "P16.2: the heading behind a whole turn", rot.Yaw(c, state.Att(e)), 0, 1000)
	if c.Hit {
		t.Error("P16.2: a circle sets the flag")
	}
}

// Biases that the estimate knows leave the motion as it is without them, but for rounding.
func TestKnownBiases(t *testing.T) {
	s, c := &source{}, &fx.Acc{}
	for range 100 {
		e := s.good()
		e = state.With(e, api.Vel, one, -2*one, 3*one)
		plain := state.With(e, api.Gyro, 0, 0, 0, 0, 0, 0)
		d := strap.Seconds(c, dt)
		for n := range 100 {
			i := api.Imu{Dt: dt, Angle: vec.V{s.within(one / 50), s.within(one / 50), s.within(one / 50)}, Dv: vec.V{s.within(one / 9), s.within(one / 9), s.within(one / 9)}}
			off := api.Imu{
				Dt:    dt,
				Angle: vec.Add(c, i.Angle, vec.Scale(c, state.Part(e, api.Gyro), d)),
				Dv:    vec.Add(c, i.Dv, vec.Scale(c, state.Part(e, api.Acc), d)),
			}
			plain, e = strap.Step(c, plain, i), strap.Step(c, e, off)
			for k := range e[:api.Gyro] {
				near(t, "P16.1: with known biases", e[k], float64(plain[k]), float64(4*(n+1)))
			}
		}
	}
}
