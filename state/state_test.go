package state_test

import (
	"fmt"
	"math"
	"slices"
	"testing"

	"astrolabe/api"
	"astrolabe/fx"
	"astrolabe/quat"
	"astrolabe/state"
	"astrolabe/vec"
)

const (
	n       = 24
	one     = api.One
	top     = api.Max
	least64 = math.MinInt64
	most64  = math.MaxInt64
)

// bounds are those of the chapter, worked out by hand: 2^30 + 16, 2^39, 2^53, 2^27, 2^30, 2^31 twice, and 2^37.
var bounds = [n]int64{
	1073741840, 1073741840, 1073741840, 1073741840,
	549755813888, 549755813888, 549755813888,
	9007199254740992, 9007199254740992, 9007199254740992,
	134217728, 134217728, 134217728,
	1073741824, 1073741824, 1073741824,
	2147483648, 2147483648, 2147483648,
	2147483648, 2147483648, 2147483648,
	137438953472, 137438953472,
}

// some is a good estimate, no two numbers of which are alike.
func some() api.State {
	return api.State{859681480, -515808888, 343872592, 171936296, one, -2 * one, 3 * one, 10 * one, 20 * one, -30 * one, 1 << 20, -1 << 21, 5, 1 << 25, 0, -1 << 26, 214748364, 21474836, -536870912, 7, -9, 11, 4 * one, -one}
}

// turned is an estimate with another quaternion.
func turned(s api.State, q quat.Quat) api.State {
	copy(s[:4], q[:])
	return s
}

// set is an estimate with another number.
func set(s api.State, i int, x int64) api.State {
	s[i] = x
	return s
}

// at is a change of one number.
func at(i int, x int64) [n]int64 {
	var d [n]int64
	d[i] = x
	return d
}

// changes are a list of them.
func changes(d ...[n]int64) [][n]int64 { return d }

// row is a call, what it answers, and whether it sets the flag.
type row struct {
	call func(c *fx.Acc) api.State
	want api.State
	hit  bool
}

// keep and add are calls for such rows.
func keep(s api.State) func(c *fx.Acc) api.State {
	return func(c *fx.Acc) api.State { return state.Keep(c, s) }
}

func add(s api.State, d ...[n]int64) func(c *fx.Acc) api.State {
	return func(c *fx.Acc) api.State { return state.Add(c, s, d...) }
}

// check holds calls against what they must answer: with the flag not set before them, and with the flag set.
func check(t *testing.T, name string, l ...row) {
	t.Helper()
	for k, r := range l {
		for _, before := range []bool{false, true} {
			c := &fx.Acc{Hit: before}
			for range 2 {
				got := r.call(c)
				if got != r.want || c.Hit != (before || r.hit) {
					t.Fatalf("%s, line %d, flag %v: %v, flag %v, not %v, flag %v", name, k, before, got, c.Hit, r.want, before || r.hit)
				}
				if !state.Good(got) {
					t.Fatalf("P15.2: %s, line %d: %v is not good", name, k, got)
				}
			}
		}
	}
}

func TestBounds(t *testing.T) {
	for range 2 {
		b := state.Bounds()
		if b != bounds {
			t.Fatalf("P15.1: Bounds: %v, not %v", b, bounds)
		}
		b[4] = 0
	}
}

// near are quaternions whose squares miss 2^60 by at most 2^32, with the sign of some numbers turned here and there.
func near() []quat.Quat {
	return []quat.Quat{
		{one, 0, 0, 0}, {0, 0, 0, -one}, {0, one + 1, 0, 0}, {0, 0, -one - 1, 0}, {one - 1, 0, 0, 0}, {0, 0, one - 2, 0},
		{one / 2, -one / 2, one / 2, -one / 2},
		{one, 1 << 16, 0, 0}, {0, -one, 0, -1 << 16}, // 2^32 too great
		{0, one + 1, 46339, -425}, {46339, 425, 10, -one - 1}, // 1 less
		{16383 << 16, -181 << 16, 2 << 16, 1 << 16}, {1 << 16, 16383 << 16, 181 << 16, -2 << 16}, // 2^32 too small
		{46330, 1006, 52, 3 - one}, // 1 less
		{859681480, -515808888, 343872592, 171936296},
	}
}

// far is a quaternion whose squares miss 2^60 by more, what Keep makes of it, and whether that sets the flag.
type far struct {
	q, want quat.Quat
	hit     bool
}

func fars() []far {
	return []far{
		{quat.Quat{}, quat.Quat{one}, false},
		// 2^32 + 1 too great: a length of One + 2.
		{quat.Quat{one, 1 << 16, 1, 0}, quat.Quat{one - 2, 1 << 16, 1, 0}, false},
		{quat.Quat{1, 0, -one, 1 << 16}, quat.Quat{1, 0, 2 - one, 1 << 16}, false},
		{quat.Quat{0, one + 1, 1 << 15, 1 << 15}, quat.Quat{0, one - 1, 1 << 15, 1 << 15}, false},
		// 2^32 + 1 too small: a length of One - 2.
		{quat.Quat{one - 3, 46329, 1041, 154}, quat.Quat{one - 1, 46329, 1041, 154}, false},
		{quat.Quat{154, 1041, 3 - one, -46329}, quat.Quat{154, 1041, 1 - one, -46329}, false},
		{quat.Quat{one + 2}, quat.Quat{one}, false},
		{quat.Quat{0, 0, 0, -one - 2}, quat.Quat{0, 0, 0, -one}, false},
		{quat.Quat{0, one - 3}, quat.Quat{0, one}, false},
		{quat.Quat{one + 16}, quat.Quat{one}, false},
		{quat.Quat{0, one + 17}, quat.Quat{0, one}, false},
		{quat.Quat{5, -3, 2, 1}, quat.Quat{859681480, -515808888, 343872592, 171936296}, false},
		{quat.Quat{0, 0, -2, 0}, quat.Quat{0, 0, -one, 0}, false},
		{quat.Quat{one, one, -one, one}, quat.Quat{one / 2, one / 2, -one / 2, one / 2}, false},
		// Squares that come to 2^60 by the last 64 bits of their sum alone.
		{quat.Quat{one + 1<<33}, quat.Quat{one}, false},
		{quat.Quat{0, 0, 0, -one - 1<<33}, quat.Quat{0, 0, 0, -one}, false},
		{quat.Quat{one, 0, 1 << 32, 0}, quat.Quat{260420644, 0, 1041682578, 0}, false},
		{quat.Quat{0, 1 << 40, one, 0}, quat.Quat{0, 1073741312, 1048576, 0}, false},
		{quat.Quat{top, 0, 0, 0}, quat.Quat{one}, false},
		{quat.Quat{0, 0, -top, one}, quat.Quat{0, 0, -one, 1}, false},
		// Beyond Max: a number, or the length.
		{quat.Quat{0, top + 1, 0, 0}, quat.Quat{0, one}, true},
		{quat.Quat{least64, 0, 0, 0}, quat.Quat{-one}, true},
		{quat.Quat{0, 0, 0, most64}, quat.Quat{0, 0, 0, one}, true},
		{quat.Quat{most64, 0, top, 0}, quat.Quat{759250125, 0, 759250125, 0}, true},
		{quat.Quat{0, top, 0, -top}, quat.Quat{0, 759250125, 0, -759250125}, true},
		{quat.Quat{top, top, top, top}, quat.Quat{one / 2, one / 2, one / 2, one / 2}, true},
		{quat.Quat{least64, least64, least64, least64}, quat.Quat{-one / 2, -one / 2, -one / 2, -one / 2}, true},
		{quat.Quat{least64, most64, most64, least64}, quat.Quat{-one / 2, one / 2, one / 2, -one / 2}, true},
	}
}

func TestGood(t *testing.T) {
	if state.Good(api.State{}) || !state.Good(some()) || !state.Good(api.State{one}) || !state.Good(api.State{-one}) {
		t.Errorf("P15.1: Good of an estimate at rest, and of none")
	}
	for _, q := range near() {
		if s := turned(some(), q); !state.Good(s) {
			t.Errorf("P15.1: Good(%v) answers false", s)
		}
	}
	for _, f := range fars() {
		if s := turned(some(), f.q); state.Good(s) {
			t.Errorf("P15.1: Good(%v) answers true", s)
		}
	}
}

// within and beyond give numbers of an index about its bounds, the quaternion's aside.
func within(i int) []int64 {
	b := bounds[i]
	return []int64{0, 1, -1, b / 2, -b / 2, b - 1, 1 - b, b, -b}
}

func beyond(i int) []int64 {
	b := bounds[i]
	return []int64{b + 1, b + 2, 2 * b, 3*b + 1, top - 1, top, top + 1, most64 - 1, most64}
}

// Each number at its bounds and beyond them, each way: it is clamped for itself, and nothing else changes.
func TestKeepAtEachIndex(t *testing.T) {
	for i := 4; i < n; i++ {
		for _, x := range within(i) {
			s := set(some(), i, x)
			if !state.Good(s) {
				t.Errorf("P15.1: Good with %d at %d answers false", x, i)
			}
			check(t, fmt.Sprintf("P15.1: Keep with %d at %d", x, i), row{keep(s), s, false})
		}
		for _, x := range beyond(i) {
			if state.Good(set(some(), i, x)) || state.Good(set(some(), i, -x)) || state.Good(set(some(), i, ^x)) {
				t.Errorf("P15.1: Good with %d at %d, or as far below 0, answers true", x, i)
			}
			check(t, fmt.Sprintf("P15.1: Keep with %d at %d, and as far below 0", x, i),
				row{keep(set(some(), i, x)), set(some(), i, bounds[i]), true},
				row{keep(set(some(), i, -x)), set(some(), i, -bounds[i]), true},
				row{keep(set(some(), i, ^x)), set(some(), i, -bounds[i]), true},
				row{keep(set(api.State{}, i, x)), set(api.State{one}, i, bounds[i]), true},
			)
		}
	}
}

func TestKeep(t *testing.T) {
	check(t, "P15.1: Keep", row{keep(api.State{}), api.State{one}, false}, row{keep(some()), some(), false})
	var highest, lowest, high, low api.State
	for i := range high {
		high[i], low[i] = most64, least64
		highest[i], lowest[i] = bounds[i], -bounds[i]
	}
	for k, q := range near() {
		check(t, fmt.Sprintf("P15.1: Keep of near quaternion %d", k),
			row{keep(turned(some(), q)), turned(some(), q), false},
			row{keep(turned(high, q)), turned(highest, q), true},
			row{keep(turned(highest, q)), turned(highest, q), false},
			row{keep(turned(low, q)), turned(lowest, q), true},
			row{keep(turned(lowest, q)), turned(lowest, q), false},
		)
	}
	for k, f := range fars() {
		check(t, fmt.Sprintf("P15.1: Keep of far quaternion %d", k),
			row{keep(turned(some(), f.q)), turned(some(), f.want), f.hit},
			row{keep(turned(high, f.q)), turned(highest, f.want), true},
			row{keep(turned(lowest, f.q)), turned(lowest, f.want), f.hit},
		)
	}
}

// Without a change, Add keeps; a change of 0 makes the quaternion a result of Unit in any case.
func TestAddOfNone(t *testing.T) {
	for k, q := range near() {
		s := turned(some(), q)
		check(t, fmt.Sprintf("P15.1: Add to near quaternion %d", k), row{add(s), s, false}, row{add(s, changes()...), s, false})
	}
	check(t, "P15.1: Add of 0",
		row{add(some(), at(0, 0)), some(), false},
		row{add(api.State{one + 1}, at(0, 0)), api.State{one}, false},
		row{add(api.State{1 - one}, at(9, 0)), api.State{-one}, false},
		row{add(api.State{one, 1 << 16}, at(0, 0)), api.State{one - 2, 1 << 16}, false},
		row{add(api.State{}, at(0, 0)), api.State{one}, false},
	)
	for k, f := range fars() {
		s, want := turned(some(), f.q), turned(some(), f.want)
		check(t, fmt.Sprintf("P15.1: Add to far quaternion %d", k), row{add(s), want, f.hit}, row{add(s, at(0, 0)), want, f.hit})
	}
	for i := 4; i < n; i++ {
		for _, x := range beyond(i) {
			check(t, fmt.Sprintf("P15.1: Add to %d at %d", x, i),
				row{add(set(some(), i, x)), set(some(), i, bounds[i]), true},
				row{add(set(some(), i, -x)), set(some(), i, -bounds[i]), true},
				row{add(set(some(), i, x), at(0, 0)), set(some(), i, bounds[i]), true},
				row{add(set(some(), i, -x), at(0, 0)), set(some(), i, -bounds[i]), true},
			)
		}
	}
}

// Each number is added at its index, and clamped to its bounds after each change.
func TestAddAtEachIndex(t *testing.T) {
	for i := 4; i < n; i++ {
		b := bounds[i]
		s := set(some(), i, 0)
		is := func(x int64) api.State { return set(s, i, x) }
		check(t, fmt.Sprintf("P15.1: Add at %d", i),
			row{add(s, at(i, 5)), is(5), false},
			row{add(s, at(i, -5), at(i, 2), at(i, -4)), is(-7), false},
			row{add(s, at(i, b)), is(b), false},
			row{add(s, at(i, -b)), is(-b), false},
			row{add(is(b-7), at(i, 7)), is(b), false},
			row{add(is(b-7), at(i, 8)), is(b), true},
			row{add(is(7-b), at(i, -7)), is(-b), false},
			row{add(is(7-b), at(i, -8)), is(-b), true},
			row{add(is(b), at(i, -2*b)), is(-b), false},
			row{add(is(b), at(i, -2*b-1)), is(-b), true},
			row{add(s, at(i, top)), is(b), true},
			row{add(s, at(i, least64)), is(-b), true},
			// One after another: what was clamped away does not come back.
			row{add(is(b), at(i, 9), at(i, -10)), is(b - 10), true},
			row{add(is(b), at(i, -10), at(i, 9)), is(b - 1), false},
			row{add(s, at(i, -b-1), at(i, 2*b)), is(b), true},
			row{add(s, at(i, 2*b), at(i, -b-1)), is(-1), true},
			// The estimate itself is not kept ahead of the first.
			row{add(is(b+20), at(i, -20)), is(b), false},
			row{add(is(b+20), at(i, -19)), is(b), true},
			row{add(is(-top), at(i, top)), is(0), false},
			row{add(is(top), at(i, 3-top)), is(3), false},
			row{add(is(top), at(i, -top), at(i, 0)), is(0), false},
			// What is beyond Max is clamped ahead of the sum.
			row{add(is(top+1), at(i, -top)), is(0), true},
			row{add(is(most64), at(i, 4-top)), is(4), true},
			row{add(is(least64), at(i, top-1)), is(-1), true},
			row{add(is(2-top), at(i, top+1)), is(2), true},
			row{add(is(top), at(i, least64)), is(0), true},
			row{add(is(least64), at(i, most64)), is(0), true},
		)
	}
}

// The quaternion's numbers are added like all others, and its length is made one after each change.
func TestAddToTheQuaternion(t *testing.T) {
	check(t, "P15.1: Add",
		row{add(api.State{one}, [n]int64{-one, one}), api.State{0, one}, false},
		row{add(api.State{one}, [n]int64{one}), api.State{one}, false},
		row{add(api.State{one}, [n]int64{-2 * one}), api.State{-one}, false},
		row{add(api.State{one}, [n]int64{-one}), api.State{one}, false},
		row{add(api.State{0, one}, [n]int64{0, -one}), api.State{one}, false},
		row{add(api.State{}, [n]int64{5, -3, 2, 1}), turned(api.State{}, quat.Quat{859681480, -515808888, 343872592, 171936296}), false},
		row{add(api.State{one}, [n]int64{3 - one, -3 * one, 0, 4 * one}), api.State{1, -644245094, 0, 858993459}, false},
		row{add(api.State{one}, [n]int64{0, one, one, one}), api.State{one / 2, one / 2, one / 2, one / 2}, false},
		row{add(api.State{one}, [n]int64{0, one}), api.State{759250125, 759250125}, false},
		// Made one after each: not after the last alone.
		row{add(api.State{one}, [n]int64{one}, [n]int64{-one}), api.State{one}, false},
		row{add(api.State{one}, [n]int64{one}, [n]int64{-one, 0, 0, -one}), api.State{0, 0, 0, -one}, false},
		row{add(api.State{one}, [n]int64{0, one, one, one}, [n]int64{-one / 2, -one / 2, one / 2, -one / 2}), api.State{0, 0, one}, false},
		// What is beyond Max.
		row{add(api.State{-top}, [n]int64{top, 1}), api.State{0, one}, false},
		row{add(api.State{least64}, [n]int64{top, 1}), api.State{0, one}, true},
		row{add(api.State{-top, 1}, [n]int64{most64}), api.State{0, one}, true},
		row{add(api.State{0, 0, one}, [n]int64{0, 0, top}), api.State{0, 0, one}, true},
		row{add(api.State{top, top, top, top}, [n]int64{}), api.State{one / 2, one / 2, one / 2, one / 2}, true},
	)
}

// Many changes at once, and many numbers at once.
func TestAddOfMany(t *testing.T) {
	var each [n]int64
	for i := range each {
		each[i] = int64(i)
	}
	each[0], each[1], each[2], each[3] = 0, 0, 0, 0
	s, want := api.State{one}, api.State{one}
	for i := 4; i < n; i++ {
		want[i] = 1000 * int64(i)
	}
	check(t, "P15.1: Add of a thousand", row{add(s, slices.Repeat(changes(each), 1000)...), want, false})
	var all [n]int64
	for i := range all {
		all[i] = most64
	}
	want = api.State(bounds)
	copy(want[:4], []int64{one / 2, one / 2, one / 2, one / 2})
	check(t, "P15.1: Add of the most", row{add(s, all), want, true}, row{add(s, all, all, all), want, true})
}

// counted is an estimate each number of which tells its index; some are beyond all bounds.
func counted() api.State {
	s := api.State{least64, most64}
	for i := 2; i < n; i++ {
		s[i] = int64(i)<<50 - 7
	}
	return s
}

func TestPart(t *testing.T) {
	s := counted()
	number := func(i int) int64 {
		if i < 0 || i >= n {
			return 0
		}
		return s[i]
	}
	for from := -30; from < 60; from++ {
		want := vec.V{number(from), number(from + 1), number(from + 2)}
		if got := state.Part(s, from); got != want {
			t.Errorf("P15.1: Part from %d: %v, not %v", from, got, want)
		}
	}
	for _, from := range farOff() {
		if got := state.Part(s, from); got != (vec.V{}) {
			t.Errorf("P15.1: Part from %d: %v", from, got)
		}
	}
}

// farOff gives indices that do not exist, nor do those behind them.
func farOff() []int {
	return []int{24, 25, 1 << 31, 1<<31 + 3, 1 << 32, 1<<32 + 3, most64 - 2, most64 - 1, most64, least64, least64 + 1, least64 + 4, -1 << 32, 3 - 1<<32, -1 << 31, -1000, -60}
}

// strange gives as many numbers as are asked for, some of them beyond all bounds.
func strange(count int) []int64 {
	return slices.Repeat([]int64{least64, 7, most64, -8, top + 1, 0, 9}, count)[:count]
}

func TestWith(t *testing.T) {
	s := counted()
	for from := -30; from < 30; from++ {
		for count := range 60 {
			v := strange(count)
			want := s
			for i := range want {
				if k := i - from; k >= 0 && k < count {
					want[i] = v[k]
				}
			}
			if got := state.With(s, from, v...); got != want {
				t.Fatalf("P15.1: With from %d, %d numbers: %v, not %v", from, count, got, want)
			}
		}
	}
	for _, from := range farOff() {
		for _, count := range []int{0, 1, 2, 3, 24, 60} {
			if got := state.With(s, from, strange(count)...); got != s {
				t.Errorf("P15.1: With from %d, %d numbers: %v, not %v", from, count, got, s)
			}
		}
	}
	if state.With(s, 5) != s || s != counted() {
		t.Errorf("P15.1: With of none changes something")
	}
}

func TestAtt(t *testing.T) {
	for _, q := range []quat.Quat{{}, {one}, {1, -2, 3, -4}, {least64, most64, top, -top - 1}} {
		if got := state.Att(turned(some(), q)); got != q {
			t.Errorf("P15.1: Att: %v, not %v", got, q)
		}
	}
	s := some()
	q := state.Att(s)
	q[0] = 0
	if s != some() {
		t.Errorf("R4: Att hands out the estimate's own numbers")
	}
}

// What is handed in stays as it was, with what lies behind it.
func TestListsAreLeftAlone(t *testing.T) {
	numbers := strange(40)
	l := changes(at(3, most64), at(4, 1<<60), at(0, least64), at(10, 5), at(23, -6))
	wereNumbers, were := slices.Clone(numbers), slices.Clone(l)
	for k := range l {
		state.With(some(), k, numbers[:k]...)
		first, again := state.Add(&fx.Acc{}, some(), l[:k]...), state.Add(&fx.Acc{}, some(), l[:k]...)
		if first != again {
			t.Errorf("R5: Add of %d: first %v, then %v", k, first, again)
		}
	}
	if !slices.Equal(numbers, wereNumbers) || !slices.Equal(l, were) {
		t.Errorf("R4: a list was changed: %v, %v", numbers, l)
	}
}
