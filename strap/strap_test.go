package strap_test

import (
	"fmt"
	"math"
	"testing"

	"astrolabe/api"
	"astrolabe/fx"
	"astrolabe/quat"
	"astrolabe/rot"
	"astrolabe/state"
	"astrolabe/strap"
	"astrolabe/vec"
)

const (
	one     = api.One
	top     = api.Max
	least64 = math.MinInt64
	most64  = math.MaxInt64

	mostVel  = 1 << 39
	mostPos  = 1 << 53
	mostGyro = 1 << 27
	mostAcc  = 1 << 30

	g       = 10529810258
	quarter = 1686629713 // of a turn
	root    = 759250125  // of a half

	sec  = 1_000_000
	fall = 84238486 // what 8000 microseconds of falling bring
	// long is the time whose falling stays just below Max: by 5944.
	long = 109491194651956
)

// some is a good estimate, no two numbers of which are alike, and someOf its matrix.
func some() api.State {
	return api.State{859681480, -515808888, 343872592, 171936296, one, -2 * one, 3 * one, 10 * one, 20 * one, -30 * one, 1 << 20, -1 << 21, 5, 1 << 25, 0, -1 << 26, 214748364, 21474836, -536870912, 7, -9, 11, 4 * one, -one}
}

func someOf() rot.M {
	return rot.M{798423408, -605700517, 385445783, -55063683, 523104992, 936082616, -715827883, -715827883, 357913942}
}

func diagonal(a, b, c int64) rot.M { return rot.M{0: a, 4: b, 8: c} }

// level is the matrix of an estimate that is level and heads north.
func level() rot.M { return diagonal(one, one, one) }

// with is an estimate with other numbers from a place on.
func with(s api.State, from int, v ...int64) api.State {
	copy(s[from:], v)
	return s
}

// rest is the estimate at rest, with other numbers from a place on.
func rest(from int, v ...int64) api.State { return with(api.State{one}, from, v...) }

// sample is one of a time that has no part in anything.
func sample(dt int64, angle, dv vec.V) api.Imu { return api.Imu{T: 5, Dt: dt, Angle: angle, Dv: dv} }

// felt is a sample of no turn.
func felt(dt int64, dv ...int64) api.Imu {
	i := sample(dt, vec.V{}, vec.V{})
	copy(i.Dv[:], dv)
	return i
}

// turns is a sample of no time in which only an angle is gone through.
func turns(angle ...int64) api.Imu {
	i := sample(0, vec.V{}, vec.V{})
	copy(i.Angle[:], angle)
	return i
}

// row tells what a call answers, and whether it sets the flag.
type row[A any] struct {
	s    api.State
	i    api.Imu
	want A
	hit  bool
}

// check holds a call against what it must answer: with the flag not set before it, and with the flag set.
func check[A comparable](t *testing.T, name string, call func(c *fx.Acc, s api.State, i api.Imu) A, l ...row[A]) {
	t.Helper()
	for k, r := range l {
		for _, before := range []bool{false, true} {
			c := &fx.Acc{Hit: before}
			for range 2 {
				if got := call(c, r.s, r.i); got != r.want || c.Hit != (before || r.hit) {
					t.Errorf("%s, line %d, flag %v: %v, flag %v, not %v, flag %v", name, k, before, got, c.Hit, r.want, before || r.hit)
				}
			}
		}
	}
}

func split(t *testing.T, name string, l ...row[strap.Parts]) {
	t.Helper()
	check(t, name, strap.Split, l...)
}

func step(t *testing.T, name string, l ...row[api.State]) {
	t.Helper()
	check(t, name, strap.Step, l...)
}

// plain is what a sample comes to that turns nothing.
func plain(dt int64, m rot.M, dv ...int64) strap.Parts {
	p := strap.Parts{Dt: dt, Turn: quat.One(), R: m}
	copy(p.Dv[:], dv)
	return p
}

// turned is what a sample comes to that turns a level estimate.
func turned(dt int64, angle vec.V, turn quat.Quat, dv ...int64) strap.Parts {
	p := plain(dt, level(), dv...)
	p.Angle, p.Turn = angle, turn
	return p
}

// P16.1: a microsecond is 1073.741824 in the format Q; no number of them ends in a half.
func TestSeconds(t *testing.T) {
	most := int64(one * sec)
	for _, r := range []struct {
		us, want int64
		hit      bool
	}{
		{0, 0, false}, {1, 1074, false}, {-1, -1074, false}, {2, 2147, false}, {3, 3221, false}, {-2, -2147, false},
		{1000, 1073742, false}, {8000, 8589935, false}, {-8000, -8589935, false}, {100000, 107374182, false},
		{sec, one, false}, {-sec / 2, -one / 2, false}, {sec / 4, one / 4, false},
		// 6369436.499968 and 10407779.500032 are the nearest to a half.
		{5932, 6369436, false}, {-5932, -6369436, false}, {9693, 10407780, false}, {-9693, -10407780, false},
		{most - 1, top - 1074, false}, {1 - most, 1074 - top, false}, {most, top, false}, {-most, -top, false},
		{most + 1, top, true}, {-most - 1, -top, true}, {1 << 50, top, true}, {-1 << 50, -top, true},
		{top, top, true}, {-top, -top, true}, {top + 1, top, true}, {-top - 1, -top, true},
		{most64, top, true}, {least64, -top, true},
	} {
		for _, before := range []bool{false, true} {
			c := &fx.Acc{Hit: before}
			if got := strap.Seconds(c, r.us); got != r.want || c.Hit != (before || r.hit) {
				t.Errorf("P16.1: Seconds(%d), flag %v: %d, flag %v, not %d, flag %v", r.us, before, got, c.Hit, r.want, before || r.hit)
			}
		}
	}
}

func TestSplit(t *testing.T) {
	split(t, "P16.1: Split",
		row[strap.Parts]{api.State{one}, api.Imu{}, plain(0, level()), false},
		row[strap.Parts]{some(), api.Imu{}, plain(0, someOf()), false},
		row[strap.Parts]{some(), sample(8000, vec.V{10737418, -5368709, 5}, vec.V{53687091, 7, -82595525}),
			strap.Parts{8589935, vec.V{10729029, -5351932, 5}, vec.V{53418656, 7, -82058654}, quat.Quat{1073725089, 5364487, -2675952, 2}, someOf()}, false},
		// Back in time, the biases are put on.
		row[strap.Parts]{some(), sample(-8000, vec.V{10737418, -5368709, 5}, vec.V{53687091, 7, -82595525}),
			strap.Parts{-8589935, vec.V{10745807, -5385486, 5}, vec.V{53955526, 7, -83132396}, quat.Quat{1073725005, 5372876, -2692729, 2}, someOf()}, false},
		// Turns about each axis, and the matrices of such.
		row[strap.Parts]{api.State{one}, turns(one), turned(0, vec.V{one, 0, 0}, quat.Quat{942297101, 514779252, 0, 0}), false},
		row[strap.Parts]{api.State{one}, turns(0, one), turned(0, vec.V{0, one, 0}, quat.Quat{942297101, 0, 514779252, 0}), false},
		row[strap.Parts]{api.State{one}, turns(0, 0, one), turned(0, vec.V{0, 0, one}, quat.Quat{942297101, 0, 0, 514779252}), false},
		row[strap.Parts]{api.State{root, root}, felt(0, 1, 2, 3), plain(0, rot.M{0: one, 5: -one, 7: one}, 1, 2, 3), false},
		row[strap.Parts]{api.State{root, 0, root}, felt(0, 1, 2, 3), plain(0, rot.M{2: one, 4: one, 6: -one}, 1, 2, 3), false},
		row[strap.Parts]{api.State{root, 0, 0, root}, felt(0, 1, 2, 3), plain(0, rot.M{1: -one, 3: one, 8: one}, 1, 2, 3), false},
		// What a bias brings is rounded, away from 0: 268.5, and 939.5.
		row[strap.Parts]{rest(api.Acc, 1<<28, -1<<28), felt(1), plain(1074, level(), -269, 269), false},
		row[strap.Parts]{rest(api.Gyro, mostGyro, -mostGyro), felt(7), turned(7516, vec.V{-940, 940, 0}, quat.Quat{one, -470, 470, 0}), false},
	)
}

// The estimate is kept ahead of all, and its other numbers have no part in the answer.
func TestSplitKeeps(t *testing.T) {
	far := api.State{one}
	for i := api.Vel; i < api.N; i++ {
		far[i] = most64
	}
	still := with(far, api.Gyro, 0, 0, 0, 0, 0, 0)
	split(t, "P16.1: Split of an estimate that is not good",
		row[strap.Parts]{api.State{}, felt(8000, 1, 2, 3), plain(8589935, level(), 1, 2, 3), false},
		row[strap.Parts]{api.State{0, 0, 2 * one}, felt(0, 1, 2, 3), plain(0, diagonal(-one, one, -one), 1, 2, 3), false},
		row[strap.Parts]{api.State{top, -top, top, top}, felt(0), plain(0, rot.M{1: -one, 5: one, 6: -one}), true},
		// A good quaternion stays what it is, even if its length is not just one.
		row[strap.Parts]{api.State{one + 1}, felt(0), plain(0, diagonal(one+2, one+2, one+2)), false},
		row[strap.Parts]{api.State{one, 1 << 16}, felt(0), plain(0, rot.M{one + 4, 0, 0, 0, one - 4, -1 << 17, 0, 1 << 17, one - 4}), false},
		row[strap.Parts]{still, felt(sec, 1, 2, 3), plain(one, level(), 1, 2, 3), true},
		row[strap.Parts]{far, sample(sec, vec.V{mostGyro, mostGyro, mostGyro}, vec.V{1, 2, 3}), plain(one, level(), 1-mostAcc, 2-mostAcc, 3-mostAcc), true},
	)
	for k := range 3 {
		for _, x := range []int64{mostGyro + 1, top, top + 1, most64} {
			split(t, fmt.Sprintf("P16.1: Split of the gyroscope's bias %d in place %d", x, k),
				row[strap.Parts]{rest(api.Gyro+k, x), sample(sec, at(k, mostGyro), vec.V{}), plain(one, level()), true},
				row[strap.Parts]{rest(api.Gyro+k, ^x), sample(sec, at(k, -mostGyro), vec.V{}), plain(one, level()), true},
			)
		}
		for _, x := range []int64{mostAcc + 1, top, top + 1, most64} {
			split(t, fmt.Sprintf("P16.1: Split of the accelerometer's bias %d in place %d", x, k),
				row[strap.Parts]{rest(api.Acc+k, x), felt(sec), plain(one, level(), parts(k, -mostAcc)...), true},
				row[strap.Parts]{rest(api.Acc+k, ^x), felt(sec), plain(one, level(), parts(k, mostAcc)...), true},
			)
		}
	}
}

// at is a vector of one number, and parts that number with those ahead of it.
func at(k int, x int64) vec.V {
	var v vec.V
	v[k] = x
	return v
}

func parts(k int, x int64) []int64 {
	v := at(k, x)
	return v[:]
}

// Each number of the sample, and of the biases, works in its place alone: in a second, a bias brings itself.
func TestSplitAtEachPlace(t *testing.T) {
	for k := range 3 {
		for _, x := range []int64{0, 1, -1, one, -5 * one, 1 << 35, -1 << 35, 1 << 58} {
			for _, bias := range []int64{0, 3, -3, mostGyro, -mostGyro} {
				left := at(k, x-bias)
				turn := rot.Exp(&fx.Acc{}, left)
				split(t, fmt.Sprintf("P16.1: Split in place %d of %d, with a bias of %d", k, x, bias),
					row[strap.Parts]{rest(api.Gyro+k, bias), sample(sec, at(k, x), vec.V{}), turned(one, left, turn), false},
					row[strap.Parts]{rest(api.Gyro+k, bias), sample(-sec, at(k, -x), vec.V{}), turned(-one, at(k, bias-x), rot.Exp(&fx.Acc{}, at(k, bias-x))), false},
					row[strap.Parts]{rest(api.Gyro+k, bias), sample(0, at(k, x), vec.V{}), turned(0, at(k, x), rot.Exp(&fx.Acc{}, at(k, x))), false},
					row[strap.Parts]{rest(api.Acc+k, bias), felt(sec, parts(k, x)...), plain(one, level(), parts(k, x-bias)...), false},
					row[strap.Parts]{rest(api.Acc+k, bias), felt(-sec, parts(k, x)...), plain(-one, level(), parts(k, x+bias)...), false},
					row[strap.Parts]{rest(api.Acc+k, bias), felt(0, parts(k, x)...), plain(0, level(), parts(k, x)...), false},
				)
			}
		}
	}
}

// Each number of the sample is clamped for itself, and what is left after the bias is too.
func TestSplitClamps(t *testing.T) {
	still := plain(0, level())
	for _, x := range []int64{top + 1, top + 5, most64 - 1, most64} {
		for k := range 3 {
			name := fmt.Sprintf("P16.1: Split of %d in place %d, and of as much below 0", x, k)
			up, down := at(k, top), at(k, -top)
			split(t, name,
				row[strap.Parts]{api.State{one}, sample(0, at(k, x), vec.V{}), turned(0, up, rot.Exp(&fx.Acc{}, up)), true},
				row[strap.Parts]{api.State{one}, sample(0, at(k, ^x), vec.V{}), turned(0, down, rot.Exp(&fx.Acc{}, down)), true},
				row[strap.Parts]{api.State{one}, felt(0, parts(k, x)...), plain(0, level(), up[:]...), true},
				row[strap.Parts]{api.State{one}, felt(0, parts(k, ^x)...), plain(0, level(), down[:]...), true},
				// Ahead of the bias, not behind it alone.
				row[strap.Parts]{rest(api.Acc+k, 7), felt(sec, parts(k, x)...), plain(one, level(), parts(k, top-7)...), true},
				row[strap.Parts]{rest(api.Acc+k, -7), felt(sec, parts(k, ^x)...), plain(one, level(), parts(k, 7-top)...), true},
			)
		}
		split(t, fmt.Sprintf("P16.1: Split at the time %d, and as far below 0", x),
			row[strap.Parts]{api.State{one}, api.Imu{T: x}, still, true},
			row[strap.Parts]{api.State{one}, api.Imu{T: ^x}, still, true},
			row[strap.Parts]{api.State{one}, felt(x), plain(top, level()), true},
			row[strap.Parts]{api.State{one}, felt(^x), plain(-top, level()), true},
		)
	}
	up := at(1, top)
	split(t, "P16.1: Split at the bounds",
		row[strap.Parts]{api.State{one}, api.Imu{T: top}, still, false},
		row[strap.Parts]{api.State{one}, api.Imu{T: -top}, still, false},
		row[strap.Parts]{api.State{one}, felt(one*sec, top, -top, top), plain(top, level(), top, -top, top), false},
		row[strap.Parts]{api.State{one}, felt(one*sec + 1), plain(top, level()), true},
		row[strap.Parts]{api.State{one}, turns(0, top), turned(0, up, rot.Exp(&fx.Acc{}, up)), false},
		row[strap.Parts]{rest(api.Gyro, 0, -1), sample(sec, at(1, top-1), vec.V{}), turned(one, up, rot.Exp(&fx.Acc{}, up)), false},
		row[strap.Parts]{rest(api.Gyro, 0, -1), sample(sec, up, vec.V{}), turned(one, up, rot.Exp(&fx.Acc{}, up)), true},
		row[strap.Parts]{rest(api.Acc, -1, 1), felt(sec, top-1, 1-top), plain(one, level(), top, -top), false},
		row[strap.Parts]{rest(api.Acc, -1, 0), felt(sec, top), plain(one, level(), top), true},
		row[strap.Parts]{rest(api.Acc, 0, 1), felt(sec, 0, -top), plain(one, level(), 0, -top), true},
		// The length of what is turned by is beyond Max.
		row[strap.Parts]{api.State{one}, turns(top, 1<<31), turned(0, vec.V{top, 1 << 31, 0}, rot.Exp(&fx.Acc{}, vec.V{top, 1 << 31, 0})), true},
	)
}

func TestStep(t *testing.T) {
	step(t, "P16.2: Step",
		row[api.State]{some(), api.Imu{}, some(), false},
		row[api.State]{some(), sample(8000, vec.V{10737418, -5368709, 5}, vec.V{53687091, 7, -82595525}),
			with(some(), 0, 863102087, -511077326, 342583763, 171501093, 1084006432, -2221761377, 3242498631, 10746049234, 21457359497, -32186399819), false},
		row[api.State]{some(), sample(-8000, vec.V{10737418, -5368709, 5}, vec.V{53687091, 7, -82595525}),
			with(some(), 0, 863111423, -511067882, 342571647, 171506452, 1084020197, -2222724991, 3073305832, 10728787191, 21492317317, -32237432849), false},
		// The most that a good sample may tell.
		row[api.State]{some(), sample(100000, vec.V{1 << 35, -1 << 34, 1 << 33}, vec.V{-1 << 35, 1 << 34, 1 << 33}),
			with(some(), 0, 467013036, -894707258, 354393982, 93403198, -31083535277, 15478917598, 18595238082, 9236928573, 22141408175, -31121431546), false},
		// Falling: a second's velocity is gravity's, and the way half of it, back in time too.
		row[api.State]{api.State{one}, felt(sec), rest(6, g, 0, 0, g/2), false},
		row[api.State]{api.State{one}, felt(-sec), rest(6, -g, 0, 0, g/2), false},
		row[api.State]{api.State{one}, felt(8000), rest(6, fall, 0, 0, 336954), false},
		row[api.State]{api.State{one}, felt(1), rest(6, 10532), false},
		// What is felt is turned to the ground, and the body turns after that.
		row[api.State]{api.State{root, root}, sample(0, vec.V{0, one, 0}, vec.V{one, 2 * one, 3 * one}),
			api.State{666304670, 666304670, 364003900, 364003900, one, -3 * one, 2 * one}, false},
		row[api.State]{api.State{root, 0, root}, sample(0, vec.V{one, 0, 0}, vec.V{one, 2 * one, 3 * one}),
			api.State{666304670, 364003900, 666304670, -364003900, 3 * one, 2 * one, -one}, false},
		row[api.State]{api.State{root, 0, 0, root}, sample(0, vec.V{0, 0, one}, vec.V{one, 2 * one, 3 * one}),
			api.State{302300770, 0, 0, 1030308570, -2 * one, one, 3 * one}, false},
		row[api.State]{api.State{one}, sample(0, vec.V{0, 0, quarter}, vec.V{one, 2 * one, 3 * one}),
			api.State{759250124, 0, 0, 759250125, one, 2 * one, 3 * one}, false},
		row[api.State]{api.State{root, root}, turns(0, 0, quarter), api.State{536870911, 536870911, -536870913, 536870913}, false},
		// The time's half is rounded ahead of the product: 7516 stays even, 8589935 does not.
		row[api.State]{rest(4, one/2, -one/2), felt(7), rest(4, one/2, -one/2, 73707, 3758, -3758), false},
		row[api.State]{rest(4, one/2, -one/2), felt(8000, 0, 0, -fall), rest(4, one/2, -one/2, 0, 4294968, -4294968), false},
		// Biases are taken off.
		row[api.State]{rest(10, 0, 0, 0, 1, -2, 3), felt(sec, 5, 5, 5-g), rest(4, 4, 7, 2, 2, 4, 1, 0, 0, 0, 1, -2, 3), false},
		row[api.State]{rest(10, one/16, -one/32, one/64), sample(sec, vec.V{one / 16, -one / 32, one / 64}, vec.V{0, 0, -g}), rest(10, one/16, -one/32, one/64), false},
		// The quaternion's length becomes one, also of a good one whose length is not.
		row[api.State]{api.State{one + 1}, felt(0, one), api.State{one, 0, 0, 0, one + 2}, false},
		row[api.State]{api.State{one, 1 << 16}, felt(0, one, one), api.State{one - 2, 1 << 16, 0, 0, one + 4, one - 4, 1 << 17}, false},
	)
}

// A sample that measures gravity alone leaves the estimate at rest as it is, whatever its time.
func TestStepAtRest(t *testing.T) {
	for _, dt := range []int64{0, 1, 2, 3, 999, 1000, 5000, 8000, 8001, 99999, 100000, sec, 1 << 40, long, -1, -8000, -long} {
		c := &fx.Acc{}
		i := felt(dt, 0, 0, -c.Mul(g, strap.Seconds(c, dt), 30))
		step(t, fmt.Sprintf("P16.2: Step at rest for %d", dt), row[api.State]{api.State{one}, i, api.State{one}, false})
	}
}

// The velocity is one sum: what would be clamped on the way, in any order, is not.
func TestStepSumsAtOnce(t *testing.T) {
	step(t, "P16.2: Step of great numbers",
		row[api.State]{rest(6, 10), felt(-long, 0, 0, top), rest(6, 10+5944, 0, 0, -326502742452), false},
		row[api.State]{rest(6, -10), felt(long, 0, 0, -top), rest(6, -10-5944, 0, 0, -326502742452), false},
		row[api.State]{rest(6, 6000), felt(long, 0, 0, -top), rest(6, 56, 0, 0, 331539337406), false},
		row[api.State]{rest(6, -fall), felt(8000, 0, 0, top), rest(6, mostVel, 0, 0, 4611686774004678), true},
	)
}

// The velocity and the place are kept within their bounds at the end; the way is reckoned ahead of that.
func TestStepAtTheBounds(t *testing.T) {
	step(t, "P16.2: Step of a velocity",
		row[api.State]{rest(4, mostVel-1, 1-mostVel, mostVel), felt(0, 1, -1), rest(4, mostVel, -mostVel, mostVel), false},
		row[api.State]{rest(4, mostVel-1, 1-mostVel), felt(0, 2, -1), rest(4, mostVel, -mostVel), true},
		row[api.State]{rest(4, mostVel-1, 1-mostVel), felt(0, 1, -2), rest(4, mostVel, -mostVel), true},
		row[api.State]{rest(6, mostVel), felt(0, 0, 0, 1), rest(6, mostVel), true},
		row[api.State]{rest(6, -mostVel), felt(0, 0, 0, -1), rest(6, -mostVel), true},
		row[api.State]{rest(4, mostVel), felt(8000, 1<<35, 0, -fall), rest(4, mostVel, 0, 0, 4535486208), true},
		// The sum of both velocities is clamped to Max, though neither is beyond it.
		row[api.State]{rest(4, mostVel), felt(1, top-mostVel, 0, -10532), rest(4, mostVel, 0, 0, 537*one), true},
		row[api.State]{rest(5, -mostVel), felt(1, 0, mostVel-top, -10532), rest(5, -mostVel, 0, 0, -537*one), true},
	)
	step(t, "P16.2: Step of a place",
		row[api.State]{rest(7, mostPos-1, 1-mostPos, mostPos), felt(sec, 2, -2, -g), rest(4, 2, -2, 0, mostPos, -mostPos, mostPos), false},
		row[api.State]{rest(7, mostPos-1, 1-mostPos), felt(sec, 4, -2, -g), rest(4, 4, -2, 0, mostPos, -mostPos), true},
		row[api.State]{rest(7, mostPos-1, 1-mostPos), felt(sec, 2, -4, -g), rest(4, 2, -4, 0, mostPos, -mostPos), true},
		row[api.State]{rest(9, mostPos), felt(sec, 0, 0, 2-g), rest(6, 2, 0, 0, mostPos), true},
		row[api.State]{rest(9, -mostPos), felt(sec, 0, 0, -2-g), rest(6, -2, 0, 0, -mostPos), true},
	)
}

// An estimate is kept ahead of all: what was beyond its bounds moves on from them.
func TestStepKeepsAhead(t *testing.T) {
	step(t, "P16.2: Step of an estimate that is not good",
		row[api.State]{api.State{}, felt(8000, 0, 0, -fall), api.State{one}, false},
		row[api.State]{api.State{}, sample(0, vec.V{one, 0, 0}, vec.V{1, 2, 3}), api.State{942297101, 514779252, 0, 0, 1, 2, 3}, false},
		row[api.State]{api.State{0, 0, 2 * one}, felt(0, one, 2*one, 3*one), api.State{0, 0, one, 0, -one, 2 * one, -3 * one}, false},
		row[api.State]{api.State{top, -top, top, top}, felt(0, one, 2*one, 3*one),
			api.State{one / 2, -one / 2, one / 2, one / 2, -2 * one, 3 * one, -one}, true},
		row[api.State]{rest(4, top, -top, most64), felt(0, -1, 1, -5), rest(4, mostVel-1, 1-mostVel, mostVel-5), true},
		row[api.State]{rest(7, top, -top, least64), felt(sec, -2, 2, 4-g), rest(4, -2, 2, 4, mostPos-1, 1-mostPos, 2-mostPos), true},
		row[api.State]{rest(13, top, 0, least64), felt(sec, mostAcc, 0, -mostAcc-g), rest(13, mostAcc, 0, -mostAcc), true},
		row[api.State]{rest(10, top, least64), sample(sec, vec.V{mostGyro, -mostGyro, 0}, vec.V{0, 0, -g}), rest(10, mostGyro, -mostGyro), true},
	)
	bounds := state.Bounds()
	for i := api.Mag; i < api.N; i++ {
		step(t, fmt.Sprintf("P16.2: Step of number %d beyond its bounds", i),
			row[api.State]{rest(i, bounds[i]), felt(8000, 0, 0, -fall), rest(i, bounds[i]), false},
			row[api.State]{rest(i, bounds[i]+1), felt(8000, 0, 0, -fall), rest(i, bounds[i]), true},
			row[api.State]{rest(i, least64), felt(8000, 0, 0, -fall), rest(i, -bounds[i]), true},
		)
	}
}

// What is clamped in the sample sets the flag, and its time has no other part in anything.
func TestStepClampsTheSample(t *testing.T) {
	i := sample(8000, vec.V{10737418, -5368709, 5}, vec.V{53687091, 7, -82595525})
	want := strap.Step(&fx.Acc{}, some(), i)
	for _, r := range []struct {
		t   int64
		hit bool
	}{{0, false}, {8000, false}, {-8000, false}, {top, false}, {-top, false}, {top + 1, true}, {-top - 1, true}, {most64, true}, {least64, true}} {
		i.T = r.t
		step(t, fmt.Sprintf("P16.2: Step at the time %d", r.t), row[api.State]{some(), i, want, r.hit})
	}
	turn := rot.Exp(&fx.Acc{}, vec.V{top, 0, 0})
	step(t, "P16.2: Step of a sample beyond Max",
		row[api.State]{api.State{one}, felt(0, top+1, least64, 5), rest(4, mostVel, -mostVel, 5), true},
		row[api.State]{api.State{one}, felt(least64), rest(6, -mostVel, 0, 0, mostPos), true},
		row[api.State]{api.State{one}, felt(most64), rest(6, mostVel, 0, 0, mostPos), true},
		row[api.State]{api.State{one}, turns(most64), with(api.State{}, 0, turn[:]...), true},
		row[api.State]{api.State{one}, turns(top), with(api.State{}, 0, turn[:]...), false},
		row[api.State]{api.State{0, 0, 0, -one}, felt(0, most64, 0, -1), api.State{0, 0, 0, -one, -mostVel, 0, -1}, true},
	)
}
