package rot_test

import (
	"math"
	"testing"

	"astrolabe/api"
	"astrolabe/fx"
	"astrolabe/quat"
	"astrolabe/rot"
	"astrolabe/vec"
)

const (
	one     = api.One
	top     = api.Max
	least64 = math.MinInt64
	most64  = math.MaxInt64

	turn    = 6746518852
	half    = 3373259426
	quarter = 1686629713

	root  = 759250125 // of a half
	third = 619925131 // the root of it
)

// row tells what a call of what is given answers, and whether it sets the flag.
type row[G, A any] struct {
	given G
	want  A
	hit   bool
}

// check holds a call against what it must answer: with the flag not set before it, and with the flag set.
func check[G any, A comparable](t *testing.T, name string, r row[G, A], call func(c *fx.Acc, given G) A) {
	t.Helper()
	for _, before := range []bool{false, true} {
		c := &fx.Acc{Hit: before}
		for range 2 {
			if got := call(c, r.given); got != r.want || c.Hit != (before || r.hit) {
				t.Errorf("%s of %v, flag %v: %v, flag %v, not %v, flag %v",
					name, r.given, before, got, c.Hit, r.want, before || r.hit)
			}
		}
	}
}

// five is a quaternion of length 1, none of whose numbers are alike, and fiveOf its matrix.
func five() quat.Quat { return quat.Quat{859681480, -515808888, 343872592, 171936296} }

func fiveOf() rot.M {
	return rot.M{798423408, -605700517, 385445783, -55063683, 523104992, 936082616, -715827883, -715827883, 357913942}
}

// nine is a matrix of small numbers, none of which are alike.
func nine() rot.M {
	return rot.M{2 * one, -3 * one, 5 * one, 7 * one, 11 * one, -13 * one, 17 * one, 19 * one, 23 * one}
}

func diagonal(a, b, c int64) rot.M { return rot.M{0: a, 4: b, 8: c} }

func TestOf(t *testing.T) {
	for _, r := range []row[quat.Quat, rot.M]{
		{quat.One(), diagonal(one, one, one), false},
		{quat.Quat{-one}, diagonal(one, one, one), false},
		{quat.Quat{}, rot.M{}, false},
		{five(), fiveOf(), false},
		// Half turns and quarter turns about each axis.
		{quat.Quat{0, one, 0, 0}, diagonal(one, -one, -one), false},
		{quat.Quat{0, 0, one, 0}, diagonal(-one, one, -one), false},
		{quat.Quat{0, 0, 0, one}, diagonal(-one, -one, one), false},
		{quat.Quat{root, root, 0, 0}, rot.M{0: one, 5: -one, 7: one}, false},
		{quat.Quat{root, 0, root, 0}, rot.M{2: one, 4: one, 6: -one}, false},
		{quat.Quat{root, 0, 0, root}, rot.M{1: -one, 3: one, 8: one}, false},
		// It need not be of length 1.
		{quat.Quat{2 << 15, 3 << 15, 5 << 15, 7 << 15}, rot.M{-61, 2, 62, 58, -29, 58, 22, 82, 19}, false},
		// A product is a quarter, a component a half: it is rounded once, away from 0.
		{quat.Quat{1 << 14, 1 << 14, 0, 0}, rot.M{0: 1, 5: -1, 7: 1}, false},
		{quat.Quat{1 << 14, 1<<14 - 1, 0, 0}, rot.M{}, false},
		{quat.Quat{0, 0, 1 << 14, -1 << 14}, rot.M{0: -1, 5: -1, 7: -1}, false},
		// A sum on the way may go beyond Max.
		{quat.Quat{1 << 45, 0, 0, 0}, diagonal(top, top, top), false},
		{quat.Quat{0, 1 << 44, 1 << 44, 0}, rot.M{1: top / 2, 3: top / 2, 8: -top / 2}, false},
		{quat.Quat{1 << 44, 1 << 44, 1 << 44, 1 << 44}, rot.M{2: top, 3: top, 7: top}, false},
		{quat.Quat{1 << 44, -1 << 44, 1 << 44, 1 << 44}, rot.M{1: -top, 5: top, 6: -top}, false},
		{quat.Quat{1<<45 + 1, 0, 0, 0}, diagonal(top, top, top), true},
		{quat.Quat{0, 0, 1<<45 + 1, 0}, diagonal(-top, top, -top), true},
		{quat.Quat{1 << 45, 0, 1 << 45, 0}, rot.M{2: top, 4: top, 6: -top}, true},
		{quat.Quat{1<<44 + 1, 1 << 44, 1 << 44, 1 << 44},
			rot.M{1 << 15, -1 << 15, top, top, 1 << 15, -1 << 15, -1 << 15, top, 1 << 15}, true},
		// Each number is clamped for itself, ahead of its sign.
		{quat.Quat{top + 1, 0, 0, 0}, diagonal(top, top, top), true},
		{quat.Quat{most64, 0, 0, 0}, diagonal(top, top, top), true},
		{quat.Quat{0, 0, 0, least64}, diagonal(-top, -top, top), true},
		{quat.Quat{least64, least64, 0, 0}, rot.M{0: top, 5: -top, 7: top}, true},
		{quat.Quat{least64, 0, 1, 0}, rot.M{top, 0, -2 * one, 0, top, 0, 2 * one, 0, top}, true},
		{quat.Quat{least64, 0, 0, 1}, rot.M{top, 2 * one, 0, -2 * one, top, 0, 0, 0, top}, true},
	} {
		check(t, "P7.1: Of", r, rot.Of)
	}
}

// moved is a matrix and a vector that it turns.
type moved struct {
	m rot.M
	v vec.V
}

func applyOf(c *fx.Acc, a moved) vec.V { return rot.Apply(c, a.m, a.v) }
func backOf(c *fx.Acc, a moved) vec.V  { return rot.Back(c, a.m, a.v) }

// transposed has the columns of m as its rows.
func transposed(m rot.M) rot.M {
	return rot.M{m[0], m[3], m[6], m[1], m[4], m[7], m[2], m[5], m[8]}
}

func TestApplyAndBack(t *testing.T) {
	for _, r := range []row[moved, vec.V]{
		{moved{rot.M{}, vec.V{one, -one, 3}}, vec.V{}, false},
		{moved{fiveOf(), vec.V{}}, vec.V{}, false},
		{moved{diagonal(one, one, one), vec.V{top, -top, 3}}, vec.V{top, -top, 3}, false},
		{moved{fiveOf(), vec.V{3 * one, -357913942, 7}}, vec.V{2597170399, -339559374, -1908874352}, false},
		{moved{transposed(fiveOf()), vec.V{3 * one, -357913942, 7}}, vec.V{2413624780, -1991469887, 844309812}, false},
		{moved{nine(), vec.V{1, 0, 0}}, vec.V{2, 7, 17}, false},
		{moved{nine(), vec.V{0, 1, 0}}, vec.V{-3, 11, 19}, false},
		{moved{nine(), vec.V{0, 0, 1}}, vec.V{5, -13, 23}, false},
		{moved{nine(), vec.V{100, 10, 1}}, vec.V{175, 797, 1913}, false},
		// Each component is rounded once: not each product; halves away from 0.
		{moved{rot.M{one / 4, one / 4, 0, -one / 4, 0, -one / 4, 0, one/4 - 1, one / 4}, vec.V{1, 1, 1}}, vec.V{1, -1, 0}, false},
		// A sum on the way may go beyond Max.
		{moved{rot.M{one, one, -one, 0, 0, 0, -one, -one, one}, vec.V{top, top, top}}, vec.V{top, 0, -top}, false},
		{moved{rot.M{0, 0, 0, one, one, 0, 0, 0, one}, vec.V{top, 1, 5}}, vec.V{0, top, 5}, true},
		{moved{rot.M{-one, 0, -one, 0, 0, one, 0, one, 0}, vec.V{top, 7, 5}}, vec.V{-top, 5, 7}, true},
		// It is rounded first, and clamped then.
		{moved{rot.M{one, 0, one/2 - 1}, vec.V{top, 0, 1}}, vec.V{top, 0, 0}, false},
		{moved{rot.M{one, 0, one / 2}, vec.V{top, 0, 1}}, vec.V{top, 0, 0}, true},
		// Each number is clamped for itself, even if it is multiplied by 0.
		{moved{diagonal(one, one, one), vec.V{top + 1, 2, least64}}, vec.V{top, 2, -top}, true},
		{moved{diagonal(one, one, one), vec.V{1, most64, 3}}, vec.V{1, top, 3}, true},
		{moved{rot.M{}, vec.V{0, 0, top + 1}}, vec.V{}, true},
		{moved{rot.M{0, 0, most64, -top - 1, 0, 0, 0, least64, 0}, vec.V{1, 2, 3}}, vec.V{3 * one, -one, -2 * one}, true},
		{moved{rot.M{7: most64}, vec.V{}}, vec.V{}, true},
		{moved{rot.M{2: least64}, vec.V{}}, vec.V{}, true},
	} {
		check(t, "P7.1: Apply", r, applyOf)
		r.given.m = transposed(r.given.m)
		check(t, "P7.1: Back", r, backOf)
	}
}

// Each number of the matrix alone, in its place.
func TestApplyAndBackOfOneNumber(t *testing.T) {
	for i := range 9 {
		var m rot.M
		m[i] = -3 * one
		across, down := vec.V{}, vec.V{}
		across[i/3], down[i%3] = -3*(5+int64(i%3)), -3*(5+int64(i/3))
		check(t, "P7.1: Apply", row[moved, vec.V]{moved{m, vec.V{5, 6, 7}}, across, false}, applyOf)
		check(t, "P7.1: Back", row[moved, vec.V]{moved{m, vec.V{5, 6, 7}}, down, false}, backOf)
	}
}

func TestExp(t *testing.T) {
	for _, r := range []row[vec.V, quat.Quat]{
		{vec.V{}, quat.Quat{one}, false},
		{vec.V{1, 0, 0}, quat.Quat{one, 1, 0, 0}, false},
		{vec.V{0, -1, 0}, quat.Quat{one, 0, -1, 0}, false},
		{vec.V{-3, 4, 0}, quat.Quat{one, -2, 2, 0}, false},
		{vec.V{1, 1, 1}, quat.Quat{one, 1, 1, 1}, false},
		{vec.V{107374182, -153391690, 357913941}, quat.Quat{1054803364, 53371077, -76244397, 177903592}, false},
		{vec.V{one, one, one}, quat.Quat{695633674, 472234157, 472234157, 472234157}, false},
		{vec.V{4 * one, 0, 0}, quat.Quat{-446834264, 976350677, 0, 0}, false},
		// Parts of a turn about each axis.
		{vec.V{quarter, 0, 0}, quat.Quat{root - 1, root, 0, 0}, false},
		{vec.V{0, quarter, 0}, quat.Quat{root - 1, 0, root, 0}, false},
		{vec.V{0, 0, -quarter}, quat.Quat{root - 1, 0, 0, -root}, false},
		{vec.V{half, 0, 0}, quat.Quat{0, one, 0, 0}, false},
		{vec.V{0, -half, 0}, quat.Quat{0, 0, -one, 0}, false},
		{vec.V{half - 1, 0, 0}, quat.Quat{0, one, 0, 0}, false},
		{vec.V{turn, 0, 0}, quat.Quat{-one}, false},
		{vec.V{0, 0, 2 * turn}, quat.Quat{one}, false},
		// Of long vectors, whose sine hardly any part is left of.
		{vec.V{1 << 50, 0, 1 << 50}, quat.Quat{-68701227, 757694413, 0, 757694413}, false},
		{vec.V{1 << 59, 0, 0}, quat.Quat{-164795885, -1061020179, 0, 0}, false},
		{vec.V{top, 0, 0}, quat.Quat{-one}, false},
		// The length is beyond Max.
		{vec.V{top, top, 0}, quat.Quat{-one}, true},
		{vec.V{0, one + 1, -top}, quat.Quat{-one}, true},
		// Each number is clamped for itself.
		{vec.V{top + 1, 0, 0}, quat.Quat{-one}, true},
		{vec.V{0, most64, 0}, quat.Quat{-one}, true},
		{vec.V{0, 0, least64}, quat.Quat{-one}, true},
	} {
		check(t, "P7.2: Exp", r, rot.Exp)
	}
}

func TestYaw(t *testing.T) {
	for _, r := range []row[quat.Quat, int64]{
		{quat.One(), 0, false},
		{quat.Quat{}, 0, false},
		{five(), -73934092, false},
		{quat.Quat{-859681480, 515808888, -343872592, -171936296}, -73934092, false},
		{quat.Quat{root, 0, 0, root}, quarter, false},
		{quat.Quat{root, 0, 0, -root}, -quarter, false},
		{quat.Quat{0, 0, 0, one}, half, false},
		{quat.Quat{0, 0, one, 0}, half, false},
		{quat.Quat{0, one, 0, 0}, 0, false},
		{quat.Quat{0, root, root, 0}, quarter, false},
		// The body's forward axis points down.
		{quat.Quat{root, 0, -root, 0}, 0, false},
		{quat.Quat{2 << 15, 3 << 15, 5 << 15, 7 << 15}, 2557007959, false},
		{quat.Quat{1 << 45, 0, 0, 0}, 0, false},
		// What is clamped in other components of the matrix sets the flag, too.
		{quat.Quat{1 << 45, 0, 1 << 45, 0}, 0, true},
		{quat.Quat{0, 0, 0, least64}, half, true},
		{quat.Quat{most64, 0, 0, least64}, -quarter, true},
	} {
		check(t, "P7.2: Yaw", r, rot.Yaw)
	}
}

func TestFromYaw(t *testing.T) {
	for _, r := range []row[int64, quat.Quat]{
		{0, quat.Quat{one}, false},
		{1, quat.Quat{one, 0, 0, 1}, false},
		{2, quat.Quat{one, 0, 0, 1}, false},
		{3, quat.Quat{one, 0, 0, 2}, false},
		{-1, quat.Quat{one, 0, 0, -1}, false},
		{one, quat.Quat{942297101, 0, 0, 514779252}, false},
		{-one, quat.Quat{942297101, 0, 0, -514779252}, false},
		{5 * one, quat.Quat{860221407, 0, 0, -642604571}, false},
		{quarter, quat.Quat{root - 1, 0, 0, root}, false},
		{half, quat.Quat{0, 0, 0, one}, false},
		{-half, quat.Quat{0, 0, 0, one}, false},
		{half + 1, quat.Quat{0, 0, 0, -one}, false},
		{1 - half, quat.Quat{0, 0, 0, -one}, false},
		{half - 2, quat.Quat{1, 0, 0, one}, false},
		// It is wrapped ahead of all else: nothing is clamped, however great it is.
		{turn, quat.Quat{one}, false},
		{-turn, quat.Quat{one}, false},
		{turn + 5, quat.Quat{one, 0, 0, 3}, false},
		{top, quat.Quat{1021936391, 0, 0, -329495853}, false},
		{-top, quat.Quat{1021936391, 0, 0, 329495853}, false},
		{most64, quat.Quat{857123784, 0, 0, 646730487}, false},
		{least64, quat.Quat{857123784, 0, 0, -646730487}, false},
	} {
		check(t, "P7.2: FromYaw", r, rot.FromYaw)
	}
}

func TestTilt(t *testing.T) {
	for _, r := range []row[vec.V, quat.Quat]{
		{vec.V{}, quat.Quat{one}, false},
		{vec.V{0, 0, -one}, quat.Quat{one}, false},
		{vec.V{0, 0, -1}, quat.Quat{one}, false},
		{vec.V{one, 2 * one, -9 * one}, quat.Quat{1065792197, -116648183, 58324092, 0}, false},
		{vec.V{one, 0, 0}, quat.Quat{root, 0, root, 0}, false},
		{vec.V{-one, 0, 0}, quat.Quat{root, 0, -root, 0}, false},
		{vec.V{0, one, 0}, quat.Quat{root, -root, 0, 0}, false},
		{vec.V{0, -1, 0}, quat.Quat{root, root, 0, 0}, false},
		{vec.V{3, -4, 0}, quat.Quat{759250125, 607400100, 455550075, 0}, false},
		// The length is rounded to 2.
		{vec.V{1, 1, 1}, quat.Quat{third, -third, third, 0}, false},
		{vec.V{top, 0, 0}, quat.Quat{root, 0, root, 0}, false},
		{vec.V{0, 0, -top}, quat.Quat{one}, false},
		// About the w from which on it is reckoned.
		{vec.V{0, 0, one}, quat.Quat{0, one, 0, 0}, false},
		{vec.V{1, 0, one}, quat.Quat{0, one, 0, 0}, false},
		{vec.V{0, 0, 1}, quat.Quat{0, one, 0, 0}, false},
		{vec.V{0, 0, top}, quat.Quat{0, one, 0, 0}, false},
		{vec.V{0, -182445, one}, quat.Quat{0, one, 0, 0}, false},
		{vec.V{188238, 0, one}, quat.Quat{96971, 0, 1073741820, 0}, false},
		// The length is beyond Max.
		{vec.V{top, top, -top}, quat.Quat{876706528, -438353264, 438353264, 0}, true},
		{vec.V{top, top, top}, quat.Quat{0, one, 0, 0}, true},
		{vec.V{one + 1, 0, -top}, quat.Quat{one, 0, 1, 0}, true},
		// Each number is clamped for itself.
		{vec.V{least64, 0, 0}, quat.Quat{root, 0, -root, 0}, true},
		{vec.V{0, most64, 0}, quat.Quat{root, -root, 0, 0}, true},
		{vec.V{0, least64, 0}, quat.Quat{root, root, 0, 0}, true},
		{vec.V{0, 0, -top - 1}, quat.Quat{one}, true},
		{vec.V{0, 0, top + 1}, quat.Quat{0, one, 0, 0}, true},
		{vec.V{0, 0, most64}, quat.Quat{0, one, 0, 0}, true},
	} {
		check(t, "P7.3: Tilt", r, rot.Tilt)
	}
}
