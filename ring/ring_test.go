package ring_test

import (
	"fmt"
	"math"
	"slices"
	"testing"

	"astrolabe/api"
	"astrolabe/ring"
)

const (
	least64 = math.MinInt64
	most64  = math.MaxInt64
)

// at is a sample of a time, with its first numbers.
func at(t int64, v ...int64) api.Sample {
	s := api.Sample{T: t}
	copy(s.V[:], v)
	return s
}

// times are samples of which nothing but the times is told.
func times(l ...int64) []api.Sample {
	var r []api.Sample
	for _, t := range l {
		r = append(r, at(t))
	}
	return r
}

// call is a call of a buffer: it tells what was wrong with the answer, if anything was.
type call func(b *ring.Buffer) string

func put(s api.Sample, want bool) call {
	return func(b *ring.Buffer) string {
		if got := b.Put(s); got != want {
			return fmt.Sprintf("Put(%v) answers %v", s, got)
		}
		return ""
	}
}

func pop(upto int64, want ...api.Sample) call {
	return func(b *ring.Buffer) string {
		if got := b.Pop(upto); !slices.Equal(got, want) {
			return fmt.Sprintf("Pop(%d) answers %v, not %v", upto, got, want)
		}
		return ""
	}
}

func spoilt(b *ring.Buffer) string {
	b.Spoilt()
	return ""
}

// row is a call, and what there is after it.
type row struct {
	call    call
	counts  ring.Counts
	horizon int64
	left    []api.Sample
}

// made is a new buffer.
func made(t *testing.T, size int) *ring.Buffer {
	t.Helper()
	b, e := ring.New(size)
	if e != api.OK || b == nil {
		t.Fatalf("P13.1: New(%d): %v, %d", size, b, e)
	}
	return b
}

// look holds all that a buffer tells of itself against what it must tell, twice: telling changes nothing.
func look(t *testing.T, name string, b *ring.Buffer, counts ring.Counts, horizon int64, left []api.Sample) {
	t.Helper()
	var first api.Sample
	if len(left) > 0 {
		first = left[0]
	}
	for range 2 {
		if b.Counts != counts {
			t.Fatalf("P13.1: %s: counts %+v, not %+v", name, b.Counts, counts)
		}
		if b.Len() != len(left) || b.Horizon() != horizon {
			t.Fatalf("P13.1: %s: Len %d, Horizon %d, not %d and %d", name, b.Len(), b.Horizon(), len(left), horizon)
		}
		if s, ok := b.Peek(); ok != (len(left) > 0) || s != first {
			t.Fatalf("P13.1: %s: Peek: %v, %v, not %v", name, s, ok, first)
		}
		gone := counts.Late + counts.Full + counts.Bad + counts.Out
		if b.Total() != gone || b.Counts.Total() != gone {
			t.Fatalf("P13.1: %s: Total %d and %d, not %d", name, b.Total(), b.Counts.Total(), gone)
		}
		if b.In != b.Total()+b.Len() {
			t.Fatalf("P13.2: %s: %d in, %d gone, %d left", name, b.In, b.Total(), b.Len())
		}
	}
}

// check makes calls of a new buffer, one after another. After each of them it looks at all that the buffer tells, and at what another buffer that was called alike gives out at the end of time.
func check(t *testing.T, name string, size int, l ...row) {
	t.Helper()
	b := made(t, size)
	look(t, name+", new", b, ring.Counts{}, least64, nil)
	for k, r := range l {
		name := fmt.Sprintf("%s, line %d", name, k)
		if fault := r.call(b); fault != "" {
			t.Fatalf("P13.1: %s: %s", name, fault)
		}
		look(t, name, b, r.counts, r.horizon, r.left)
		other := made(t, size)
		for _, x := range l[:k+1] {
			x.call(other)
		}
		if got := other.Pop(most64); !slices.Equal(got, r.left) {
			t.Fatalf("P13.1: %s: %v are left, not %v", name, got, r.left)
		}
		counts := r.counts
		counts.Out += len(r.left)
		look(t, name+", at the end", other, counts, most64, nil)
	}
}

// in is what is counted of samples that are there.
func in(n int) ring.Counts { return ring.Counts{In: n} }

func TestNew(t *testing.T) {
	for size := 1; size <= api.MaxBuffer; size++ {
		look(t, "new", made(t, size), ring.Counts{}, least64, nil)
	}
	for _, size := range []int{0, -1, -2, -api.MaxBuffer, api.MaxBuffer + 1, api.MaxBuffer + 2, 1<<32 + 1, -1<<32 + 1, least64, least64 + 1, most64, most64 - 1} {
		if b, e := ring.New(size); b != nil || e != api.EARG {
			t.Errorf("P13.1: New(%d): %v, %d", size, b, e)
		}
	}
}

// What the chapter tells as examples, one after another.
func TestExamples(t *testing.T) {
	check(t, "the examples", 2,
		row{put(at(5), true), in(1), least64, times(5)},
		row{put(at(3), true), in(2), least64, times(3, 5)},
		row{put(at(4), true), ring.Counts{In: 3, Full: 1}, least64, times(4, 5)},
		row{pop(4, at(4)), ring.Counts{In: 3, Full: 1, Out: 1}, 4, times(5)},
		row{put(at(4), false), ring.Counts{In: 4, Late: 1, Full: 1, Out: 1}, 4, times(5)},
		row{pop(-9), ring.Counts{In: 4, Late: 1, Full: 1, Out: 1}, 4, times(5)},
	)
}

func TestPutAtItsPlace(t *testing.T) {
	check(t, "Put", 9,
		row{put(at(40), true), in(1), least64, times(40)},
		row{put(at(20), true), in(2), least64, times(20, 40)},
		row{put(at(30), true), in(3), least64, times(20, 30, 40)},
		row{put(at(50), true), in(4), least64, times(20, 30, 40, 50)},
		row{put(at(10), true), in(5), least64, times(10, 20, 30, 40, 50)},
		row{put(at(31), true), in(6), least64, times(10, 20, 30, 31, 40, 50)},
		// One that is equal goes in too.
		row{put(at(30), true), in(7), least64, times(10, 20, 30, 30, 31, 40, 50)},
		row{put(at(10), true), in(8), least64, times(10, 10, 20, 30, 30, 31, 40, 50)},
		row{put(at(50), true), in(9), least64, times(10, 10, 20, 30, 30, 31, 40, 50, 50)},
	)
	check(t, "Put at the ends of time", 5,
		row{put(at(most64), true), in(1), least64, times(most64)},
		row{put(at(least64+1), true), in(2), least64, times(least64+1, most64)},
		row{put(at(0), true), in(3), least64, times(least64+1, 0, most64)},
		row{put(at(-1), true), in(4), least64, times(least64+1, -1, 0, most64)},
		row{put(at(most64-1), true), in(5), least64, times(least64+1, -1, 0, most64-1, most64)},
	)
}

// Samples of the same time stand in the order of their numbers, the first one that is not alike telling it.
func TestPutAtTheSameTime(t *testing.T) {
	for k := range 8 {
		for _, v := range [][2]int64{{0, 1}, {-1, 0}, {-1, 1}, {-5, 3}, {least64, most64}, {least64, 0}, {0, most64}, {1, 1 << 32}, {-1 << 32, 1}} {
			var a, b api.Sample
			a.T, b.T = 7, 7
			for i := range 8 {
				a.V[i], b.V[i] = 9, 9
				if i > k {
					a.V[i], b.V[i] = most64, least64
				}
			}
			a.V[k], b.V[k] = v[0], v[1]
			name := fmt.Sprintf("number %d, %d and %d", k, v[0], v[1])
			check(t, name, 5,
				row{put(a, true), in(1), least64, []api.Sample{a}},
				row{put(b, true), in(2), least64, []api.Sample{a, b}},
				row{put(a, true), in(3), least64, []api.Sample{a, a, b}},
				row{put(b, true), in(4), least64, []api.Sample{a, a, b, b}},
			)
			check(t, name+", turned", 2,
				row{put(b, true), in(1), least64, []api.Sample{b}},
				row{put(a, true), in(2), least64, []api.Sample{a, b}},
				row{put(a, false), ring.Counts{In: 3, Full: 1}, least64, []api.Sample{a, b}},
				row{put(b, true), ring.Counts{In: 4, Full: 2}, least64, []api.Sample{b, b}},
				row{put(a, false), ring.Counts{In: 5, Full: 3}, least64, []api.Sample{b, b}},
			)
			// The time is told ahead of all numbers.
			b.T = 6
			check(t, name+", the time ahead of it", 2,
				row{put(a, true), in(1), least64, []api.Sample{a}},
				row{put(b, true), in(2), least64, []api.Sample{b, a}},
			)
		}
	}
}

// A sample whose time is the horizon, or ahead of it, is late; one after it is not.
func TestPutTooLate(t *testing.T) {
	for _, h := range []int64{-1, 0, 1, 1000, 1 << 50, least64 + 1, most64 - 1} {
		check(t, fmt.Sprintf("Put at the horizon %d", h), 3,
			row{pop(h), ring.Counts{}, h, nil},
			row{put(at(h, -1), false), ring.Counts{In: 1, Late: 1}, h, nil},
			row{put(at(h, 1), false), ring.Counts{In: 2, Late: 2}, h, nil},
			row{put(at(h-1, most64), false), ring.Counts{In: 3, Late: 3}, h, nil},
			row{put(at(least64), false), ring.Counts{In: 4, Late: 4}, h, nil},
			row{put(at(h+1, least64), true), ring.Counts{In: 5, Late: 4}, h, []api.Sample{at(h+1, least64)}},
			row{put(at(most64, 1), true), ring.Counts{In: 6, Late: 4}, h, []api.Sample{at(h+1, least64), at(most64, 1)}},
		)
	}
	check(t, "Put ahead of all time", 1,
		row{put(at(least64), false), ring.Counts{In: 1, Late: 1}, least64, nil},
		row{put(at(least64, most64), false), ring.Counts{In: 2, Late: 2}, least64, nil},
		row{put(at(least64+1), true), ring.Counts{In: 3, Late: 2}, least64, times(least64 + 1)},
	)
	check(t, "Put at the end of time", 1,
		row{pop(most64), ring.Counts{}, most64, nil},
		row{put(at(most64), false), ring.Counts{In: 1, Late: 1}, most64, nil},
		row{put(at(0), false), ring.Counts{In: 2, Late: 2}, most64, nil},
	)
	// What is late drops nothing, also where there is no room.
	check(t, "Put too late into a full one", 1,
		row{pop(4), ring.Counts{}, 4, nil},
		row{put(at(5), true), in(1), 4, times(5)},
		row{put(at(4), false), ring.Counts{In: 2, Late: 1}, 4, times(5)},
		row{put(at(6), true), ring.Counts{In: 3, Late: 1, Full: 1}, 4, times(6)},
	)
}

// The first one is dropped where there is no room, be it the one that is put.
func TestPutWithoutRoom(t *testing.T) {
	check(t, "Put into one of size 1", 1,
		row{put(at(5), true), in(1), least64, times(5)},
		row{put(at(5), false), ring.Counts{In: 2, Full: 1}, least64, times(5)},
		row{put(at(4), false), ring.Counts{In: 3, Full: 2}, least64, times(5)},
		row{put(at(5, -1), false), ring.Counts{In: 4, Full: 3}, least64, times(5)},
		row{put(at(5, 1), true), ring.Counts{In: 5, Full: 4}, least64, []api.Sample{at(5, 1)}},
		row{put(at(6), true), ring.Counts{In: 6, Full: 5}, least64, times(6)},
		row{put(at(least64+1), false), ring.Counts{In: 7, Full: 6}, least64, times(6)},
	)
	check(t, "Put into one of size 3", 3,
		row{put(at(7), true), in(1), least64, times(7)},
		row{put(at(5), true), in(2), least64, times(5, 7)},
		row{put(at(6), true), in(3), least64, times(5, 6, 7)},
		// Equal to the one that is dropped, it is as good as dropped itself.
		row{put(at(5), false), ring.Counts{In: 4, Full: 1}, least64, times(5, 6, 7)},
		row{put(at(6), true), ring.Counts{In: 5, Full: 2}, least64, times(6, 6, 7)},
		row{put(at(6), false), ring.Counts{In: 6, Full: 3}, least64, times(6, 6, 7)},
		row{put(at(7), true), ring.Counts{In: 7, Full: 4}, least64, times(6, 7, 7)},
		row{put(at(9), true), ring.Counts{In: 8, Full: 5}, least64, times(7, 7, 9)},
		row{put(at(8), true), ring.Counts{In: 9, Full: 6}, least64, times(7, 8, 9)},
		row{put(at(1), false), ring.Counts{In: 10, Full: 7}, least64, times(7, 8, 9)},
		// What was dropped is not late: there is room again.
		row{pop(6), ring.Counts{In: 10, Full: 7}, 6, times(7, 8, 9)},
		row{pop(7, at(7)), ring.Counts{In: 10, Full: 7, Out: 1}, 7, times(8, 9)},
		row{put(at(8), true), ring.Counts{In: 11, Full: 7, Out: 1}, 7, times(8, 8, 9)},
		row{put(at(8), false), ring.Counts{In: 12, Full: 8, Out: 1}, 7, times(8, 8, 9)},
	)
}

// A buffer takes as many samples as its size tells, and no more.
func TestPutOfMany(t *testing.T) {
	for size := 1; size <= api.MaxBuffer; size++ {
		b := made(t, size)
		var l []api.Sample
		for i := range 3 * size {
			s := at(int64(i)*10, int64(i))
			if !b.Put(s) {
				t.Fatalf("P13.1: size %d: Put of sample %d answers false", size, i)
			}
			l = append(l, s)
			left := l[max(0, len(l)-size):]
			look(t, fmt.Sprintf("size %d, sample %d", size, i), b, ring.Counts{In: i + 1, Full: len(l) - len(left)}, least64, left)
		}
		if got := b.Pop(most64); !slices.Equal(got, l[2*size:]) {
			t.Errorf("P13.1: size %d: %v are left", size, got)
		}
	}
}

func TestSpoilt(t *testing.T) {
	check(t, "Spoilt", 1,
		row{spoilt, ring.Counts{In: 1, Bad: 1}, least64, nil},
		row{spoilt, ring.Counts{In: 2, Bad: 2}, least64, nil},
		row{put(at(5), true), ring.Counts{In: 3, Bad: 2}, least64, times(5)},
		row{spoilt, ring.Counts{In: 4, Bad: 3}, least64, times(5)},
		row{pop(5, at(5)), ring.Counts{In: 4, Bad: 3, Out: 1}, 5, nil},
		row{spoilt, ring.Counts{In: 5, Bad: 4, Out: 1}, 5, nil},
	)
}

func TestPop(t *testing.T) {
	check(t, "Pop", 6,
		row{pop(-100), ring.Counts{}, -100, nil},
		row{put(at(7, 2), true), in(1), -100, []api.Sample{at(7, 2)}},
		row{put(at(-5), true), in(2), -100, []api.Sample{at(-5), at(7, 2)}},
		row{put(at(7, 1), true), in(3), -100, []api.Sample{at(-5), at(7, 1), at(7, 2)}},
		row{put(at(9), true), in(4), -100, []api.Sample{at(-5), at(7, 1), at(7, 2), at(9)}},
		row{put(at(8), true), in(5), -100, []api.Sample{at(-5), at(7, 1), at(7, 2), at(8), at(9)}},
		// Nothing comes out at a time ahead of the horizon, which stays.
		row{pop(-101), in(5), -100, []api.Sample{at(-5), at(7, 1), at(7, 2), at(8), at(9)}},
		row{pop(least64), in(5), -100, []api.Sample{at(-5), at(7, 1), at(7, 2), at(8), at(9)}},
		row{pop(-6), in(5), -6, []api.Sample{at(-5), at(7, 1), at(7, 2), at(8), at(9)}},
		row{pop(-5, at(-5)), ring.Counts{In: 5, Out: 1}, -5, []api.Sample{at(7, 1), at(7, 2), at(8), at(9)}},
		row{pop(-5), ring.Counts{In: 5, Out: 1}, -5, []api.Sample{at(7, 1), at(7, 2), at(8), at(9)}},
		row{pop(6), ring.Counts{In: 5, Out: 1}, 6, []api.Sample{at(7, 1), at(7, 2), at(8), at(9)}},
		// All that are of the time come out.
		row{pop(7, at(7, 1), at(7, 2)), ring.Counts{In: 5, Out: 3}, 7, times(8, 9)},
		row{put(at(7, 3), false), ring.Counts{In: 6, Late: 1, Out: 3}, 7, times(8, 9)},
		row{pop(100, at(8), at(9)), ring.Counts{In: 6, Late: 1, Out: 5}, 100, nil},
		// The horizon goes on where there is nothing, too.
		row{pop(101), ring.Counts{In: 6, Late: 1, Out: 5}, 101, nil},
		row{put(at(102), true), ring.Counts{In: 7, Late: 1, Out: 5}, 101, times(102)},
		row{pop(most64, at(102)), ring.Counts{In: 7, Late: 1, Out: 6}, most64, nil},
		row{pop(0), ring.Counts{In: 7, Late: 1, Out: 6}, most64, nil},
	)
	check(t, "Pop at the ends of time", 2,
		row{pop(least64), ring.Counts{}, least64, nil},
		row{put(at(least64+1), true), in(1), least64, times(least64 + 1)},
		row{put(at(most64), true), in(2), least64, times(least64+1, most64)},
		row{pop(least64), in(2), least64, times(least64+1, most64)},
		row{pop(least64+1, at(least64+1)), ring.Counts{In: 2, Out: 1}, least64 + 1, times(most64)},
		row{pop(most64 - 1), ring.Counts{In: 2, Out: 1}, most64 - 1, times(most64)},
		row{pop(most64, at(most64)), ring.Counts{In: 2, Out: 2}, most64, nil},
	)
}

// What a sample's numbers say makes no difference to whether its time has come.
func TestPopByTimeAlone(t *testing.T) {
	for _, v := range []int64{least64, -1, 0, 1, most64} {
		s := at(7, v, v, v, v, v, v, v, v)
		check(t, fmt.Sprintf("Pop of %v", s), 2,
			row{put(s, true), in(1), least64, []api.Sample{s}},
			row{pop(6), in(1), 6, []api.Sample{s}},
			row{pop(7, s), ring.Counts{In: 1, Out: 1}, 7, nil},
		)
	}
}

func TestTotal(t *testing.T) {
	for _, x := range []struct {
		counts ring.Counts
		want   int
	}{
		{ring.Counts{}, 0},
		{ring.Counts{In: 9}, 0},
		{ring.Counts{Late: 9}, 9},
		{ring.Counts{Full: 9}, 9},
		{ring.Counts{Bad: 9}, 9},
		{ring.Counts{Out: 9}, 9},
		{ring.Counts{In: 100000, Late: 1, Full: 20, Bad: 300, Out: 4000}, 4321},
		{ring.Counts{In: -7, Late: -1, Full: 20, Bad: -300, Out: 4000}, 3719},
		{ring.Counts{Late: most64, Full: least64}, -1},
		{ring.Counts{Late: most64, Full: -5, Bad: 3, Out: 2}, most64},
	} {
		was := x.counts
		if got := x.counts.Total(); got != x.want || x.counts != was {
			t.Errorf("P13.1: Total of %+v: %d, not %d", was, got, x.want)
		}
	}
}

// A buffer has the fields and the method of its Counts as if they were its own.
func TestCountsArePromoted(t *testing.T) {
	b := made(t, 2)
	for _, s := range []api.Sample{at(5), at(6), at(7), at(8)} {
		b.Put(s)
	}
	b.Pop(7)
	for range 3 {
		b.Put(at(7))
	}
	for range 4 {
		b.Spoilt()
	}
	var total func() int = b.Total
	if b.In != 11 || b.Late != 3 || b.Full != 2 || b.Bad != 4 || b.Out != 1 || total() != 10 {
		t.Errorf("P13.1: counts %+v, Total %d", b.Counts, total())
	}
	kept := b.Counts
	b.Put(at(9))
	if kept != (ring.Counts{In: 11, Late: 3, Full: 2, Bad: 4, Out: 1}) || b.In != 12 {
		t.Errorf("R5: what was counted is now %+v, and %+v", kept, b.Counts)
	}
}

// What a buffer keeps does not hang on what is written over its counts.
func TestCountsAreCountsAlone(t *testing.T) {
	b := made(t, 2)
	b.Put(at(5))
	b.Counts = ring.Counts{In: -3, Late: 100, Full: 200, Bad: 300, Out: 400}
	if !b.Put(at(6)) || b.Len() != 2 || b.Horizon() != least64 || b.Counts != (ring.Counts{In: -2, Late: 100, Full: 200, Bad: 300, Out: 400}) {
		t.Errorf("P13.1: Len %d, Horizon %d, counts %+v", b.Len(), b.Horizon(), b.Counts)
	}
	if got := b.Pop(5); !slices.Equal(got, times(5)) || b.Out != 401 {
		t.Errorf("P13.1: Pop: %v, %d out", got, b.Out)
	}
}

// What Pop gives out is new memory, and what was given out stays as it was.
func TestPopIsNewMemory(t *testing.T) {
	b := made(t, 8)
	for i := range int64(8) {
		b.Put(at(i, i))
	}
	first := b.Pop(2)
	want := []api.Sample{at(0, 0), at(1, 1), at(2, 2)}
	for i := range int64(3) {
		b.Put(at(i+8, i+8))
	}
	b.Pop(4)
	if !slices.Equal(first, want) {
		t.Errorf("R4: what Pop gave out became %v", first)
	}
	for _, l := range [][]api.Sample{first, b.Pop(5), b.Pop(5)} {
		l = l[:cap(l)]
		for i := range l {
			l[i] = at(most64, -1)
		}
		_ = append(l, times(1, 2, 3)...)
	}
	if got := b.Pop(most64); !slices.Equal(got, []api.Sample{at(6, 6), at(7, 7), at(8, 8), at(9, 9), at(10, 10)}) {
		t.Errorf("R4: after others wrote to what Pop gave out, %v were left", got)
	}
}

// Buffers have nothing to do with each other.
func TestBuffersAreApart(t *testing.T) {
	a, b := made(t, 2), made(t, 2)
	a.Put(at(5))
	a.Spoilt()
	look(t, "another buffer", b, ring.Counts{}, least64, nil)
	b.Put(at(1))
	b.Pop(9)
	look(t, "a buffer", a, ring.Counts{In: 2, Bad: 1}, least64, times(5))
	look(t, "another buffer", b, ring.Counts{In: 1, Out: 1}, 9, nil)
}
