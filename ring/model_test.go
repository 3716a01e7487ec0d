package ring_test

import (
	"encoding/binary"
	"fmt"
	"slices"
	"testing"

	"astrolabe/api"
	"astrolabe/ring"
)

// The tests of this file hold buffers against a heap of samples without any order, out of which the first one is searched each time.

// source gives strewn numbers, one after another.
type source struct{ next uint64 }

func (s *source) any() uint64 {
	s.next++
	x := s.next * 0x9e3779b97f4a7c15
	x ^= x >> 29
	x *= 0xbf58476d1ce4e5b9
	return x ^ x>>32
}

// one gives a number from 0 to count - 1.
func (s *source) one(count int64) int64 { return int64(s.any() >> 32 % uint64(count)) }

// near gives a sample of a time in some span that is often equal to others: at most one of its numbers is not 0.
func (s *source) near(from, count int64) api.Sample {
	x := at(from + s.one(count))
	x.V[s.one(8)] = s.one(3) - 1
	return x
}

// wild gives a sample of numbers of any length, most of all those at the ends.
func (s *source) wild() api.Sample {
	var x api.Sample
	x.T = s.far()
	for i := range x.V {
		x.V[i] = s.far()
	}
	return x
}

func (s *source) far() int64 {
	ends := []int64{least64, least64 + 1, -1, 0, 1, most64 - 1, most64}
	if i := s.one(12); i < int64(len(ends)) {
		return ends[i]
	}
	return int64(s.any()) >> s.one(64)
}

// key is a text that stands in the order of the samples.
func key(s api.Sample) string {
	var l []byte
	for _, x := range append([]int64{s.T}, s.V[:]...) {
		l = binary.BigEndian.AppendUint64(l, uint64(x)^1<<63)
	}
	return string(l)
}

// heap is what a buffer is to be.
type heap struct {
	size    int
	horizon int64
	samples []api.Sample
	counts  ring.Counts
}

// first tells where the first sample lies.
func (h *heap) first() int {
	f := 0
	for i, s := range h.samples {
		if key(s) < key(h.samples[f]) {
			f = i
		}
	}
	return f
}

// out takes the first sample out.
func (h *heap) out() api.Sample {
	f := h.first()
	s := h.samples[f]
	h.samples[f] = h.samples[len(h.samples)-1]
	h.samples = h.samples[:len(h.samples)-1]
	return s
}

func (h *heap) put(s api.Sample) bool {
	h.counts.In++
	if s.T <= h.horizon {
		h.counts.Late++
		return false
	}
	h.samples = append(h.samples, s)
	if len(h.samples) == h.size+1 {
		h.counts.Full++
		return key(h.out()) != key(s)
	}
	return true
}

func (h *heap) pop(upto int64) []api.Sample {
	var l []api.Sample
	for len(h.samples) > 0 && h.samples[h.first()].T <= upto {
		l = append(l, h.out())
	}
	h.counts.Out += len(l)
	if upto > h.horizon {
		h.horizon = upto
	}
	return l
}

// held holds a buffer against such a heap.
func held(t *testing.T, name string, b *ring.Buffer, h *heap) {
	t.Helper()
	var first api.Sample
	if len(h.samples) > 0 {
		first = h.samples[h.first()]
	}
	if s, ok := b.Peek(); s != first || ok != (len(h.samples) > 0) {
		t.Fatalf("P13.1: %s: Peek: %v, %v, not %v", name, s, ok, first)
	}
	if b.Counts != h.counts || b.Len() != len(h.samples) || b.Horizon() != h.horizon {
		t.Fatalf("P13.1: %s: %+v, Len %d, Horizon %d, not %+v, %d, %d", name, b.Counts, b.Len(), b.Horizon(), h.counts, len(h.samples), h.horizon)
	}
	if b.In != b.Total()+b.Len() {
		t.Fatalf("P13.2: %s: %d in, %d gone, %d left", name, b.In, b.Total(), b.Len())
	}
}

// walk makes many calls of a buffer and of a heap, and tells what became of the samples.
func walk(t *testing.T, name string, size, steps int, sample func(step int) api.Sample, time func(step int) int64, s *source) ring.Counts {
	t.Helper()
	b, h := made(t, size), &heap{size: size, horizon: least64}
	for i := range steps {
		name := fmt.Sprintf("%s, size %d, step %d", name, size, i)
		switch s.one(12) {
		case 0:
			b.Spoilt()
			h.counts.In++
			h.counts.Bad++
		case 1:
			upto := time(i)
			if got, want := b.Pop(upto), h.pop(upto); !slices.Equal(got, want) {
				t.Fatalf("P13.1: %s: Pop(%d): %v, not %v", name, upto, got, want)
			}
		default:
			x := sample(i)
			if got, want := b.Put(x), h.put(x); got != want {
				t.Fatalf("P13.1: %s: Put(%v): %v, not %v", name, x, got, want)
			}
		}
		held(t, name, b, h)
	}
	if got, want := b.Pop(most64), h.pop(most64); !slices.Equal(got, want) {
		t.Fatalf("P13.1: %s, size %d: %v are left, not %v", name, size, got, want)
	}
	return b.Counts
}

// all tells whether samples came to each of the ends.
func all(n ring.Counts) bool { return n.Late > 0 && n.Full > 0 && n.Bad > 0 && n.Out > 0 }

// Time goes on, and samples come near it, many of them equal.
func TestTimeGoesOnByModel(t *testing.T) {
	s := &source{}
	for size := 1; size <= api.MaxBuffer; size++ {
		now := func(i int) int64 { return int64(i) / 8 }
		n := walk(t, "time goes on", size, 500,
			func(i int) api.Sample { return s.near(now(i), 12+int64(size)/4) },
			func(i int) int64 { return now(i) + s.one(5) - 2 }, s)
		if !all(n) {
			t.Errorf("size %d: not all may happen: %+v", size, n)
		}
	}
}

// Any numbers, with the time at any of them.
func TestAnythingByModel(t *testing.T) {
	s := &source{}
	var sum ring.Counts
	for k := range 300 {
		n := walk(t, "anything", 1+k%api.MaxBuffer, 90,
			func(int) api.Sample { return s.wild() },
			func(int) int64 { return s.far() >> 2 * 3 }, s)
		sum.Late, sum.Full, sum.Bad, sum.Out = sum.Late+n.Late, sum.Full+n.Full, sum.Bad+n.Bad, sum.Out+n.Out
	}
	if !all(sum) {
		t.Errorf("not all may happen: %+v", sum)
	}
}

// orders calls f with the samples in each order.
func orders(l []api.Sample, from int, f func(l []api.Sample)) {
	if from == len(l) {
		f(l)
		return
	}
	for i := from; i < len(l); i++ {
		l[from], l[i] = l[i], l[from]
		orders(l, from+1, f)
		l[from], l[i] = l[i], l[from]
	}
}

// The order in which samples arrive makes no difference while there is room for all of them, those that are late among them.
func TestOrderMakesNoDifference(t *testing.T) {
	l := []api.Sample{at(3, 1), at(2, 9, -1), at(3, 1), at(5), at(2, 9, -2), at(1), at(4, 0, 0, 0, 0, 0, 0, 0, 7)}
	want := []api.Sample{at(2, 9, -2), at(2, 9, -1), at(3, 1), at(3, 1), at(4, 0, 0, 0, 0, 0, 0, 0, 7)}
	count := 0
	orders(l, 0, func(l []api.Sample) {
		count++
		b := made(t, 6)
		b.Pop(1)
		for i, s := range l {
			if b.Put(s) != (s.T > 1) || b.In != b.Total()+b.Len() || b.In != i+1 {
				t.Fatalf("P13.2: Put of %v among %v: %+v, Len %d", s, l, b.Counts, b.Len())
			}
		}
		if got := b.Pop(4); !slices.Equal(got, want) {
			t.Fatalf("P13.2: put as %v, they come out as %v", l, got)
		}
		look(t, "in any order", b, ring.Counts{In: 7, Late: 1, Out: 5}, 4, times(5))
	})
	if count != 5040 {
		t.Errorf("%d orders", count)
	}
}

// So it is with as many samples as there may be, and from Pop to Pop.
func TestOrderMakesNoDifferenceToMany(t *testing.T) {
	s := &source{}
	for range 50 {
		a, b := made(t, api.MaxBuffer), made(t, api.MaxBuffer)
		for from := int64(0); from < 100; from += 10 {
			var l []api.Sample
			for range api.MaxBuffer - a.Len() {
				l = append(l, s.near(from, 15))
			}
			for _, x := range l {
				a.Put(x)
			}
			for i := range l {
				k := int64(i) + s.one(int64(len(l)-i))
				l[i], l[k] = l[k], l[i]
			}
			for _, x := range l {
				b.Put(x)
			}
			x, y := a.Pop(from+9), b.Pop(from+9)
			if !slices.Equal(x, y) || a.Full+b.Full > 0 {
				t.Fatalf("P13.2: up to %d: %v, but also %v", from+9, x, y)
			}
		}
	}
}
