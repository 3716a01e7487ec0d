package earth_test

import (
	"math"
	"testing"

	"astrolabe/api"
	"astrolabe/earth"
	"astrolabe/fx"
	"astrolabe/vec"
)

const (
	one     = api.One
	least64 = math.MinInt64
	most64  = math.MaxInt64

	half  = 3373259426 // of a turn, in radians
	equal = 1800000000 // the same in ten-millionths of a degree

	mostLat   = 900000000
	mostLon   = 1800000000
	mostAlt   = 100000000
	mostStart = 850000000
)

// frame makes one of an origin that may be.
func frame(t *testing.T, o earth.Place) *earth.Frame {
	t.Helper()
	f, e := earth.New(o)
	if e != api.OK || f == nil {
		t.Fatalf("P8.1: New of %v: error %d", o, e)
	}
	return f
}

// edges gives places whose numbers are at their bounds, or 0.
func edges() []earth.Place {
	var l []earth.Place
	for n := range int64(27) {
		l = append(l, earth.Place{Lat: (n%3 - 1) * mostLat, Lon: (n/3%3 - 1) * mostLon, Alt: (n/9 - 1) * mostAlt})
	}
	return l
}

// beyond gives places one of whose numbers is beyond its bounds.
func beyond() []earth.Place {
	var l []earth.Place
	for _, far := range []int64{1, 2, 1 << 20, 1 << 32, 1 << 60, 1<<60 + 1, most64 - mostLon} {
		l = append(l, earth.Place{Lat: mostLat + far}, earth.Place{Lon: mostLon + far}, earth.Place{Alt: mostAlt + far},
			earth.Place{Lat: -mostLat - far}, earth.Place{Lon: -mostLon - far}, earth.Place{Alt: -mostAlt - far})
	}
	for _, a := range []int64{most64, least64, least64 + 1} {
		l = append(l, earth.Place{Lat: a}, earth.Place{Lon: a}, earth.Place{Alt: a}, earth.Place{Lat: a, Lon: a, Alt: a})
	}
	// Each number has bounds of its own.
	return append(l, earth.Place{Lat: mostLon}, earth.Place{Lat: -mostLon}, earth.Place{Alt: mostLat}, earth.Place{Alt: -mostLat},
		earth.Place{Lat: mostLat, Lon: mostLon + 1, Alt: mostAlt}, earth.Place{Lat: -mostLat - 1, Lon: -mostLon, Alt: -mostAlt},
		earth.Place{Lat: mostLat, Lon: -mostLon, Alt: mostAlt + 1})
}

func TestGood(t *testing.T) {
	for _, p := range append(edges(), earth.Place{Lat: 473977420, Lon: 85455940, Alt: 500000}) {
		if !earth.Good(p) {
			t.Errorf("P8.3: Good of %v is false", p)
		}
	}
	for _, p := range beyond() {
		if earth.Good(p) {
			t.Errorf("P8.3: Good of %v is true", p)
		}
	}
}

func TestNew(t *testing.T) {
	for _, p := range edges() {
		for _, lat := range []int64{mostStart, -mostStart, mostStart - 1, 1 - mostStart} {
			p.Lat = lat
			frame(t, p)
		}
	}
	refused := beyond()
	for _, p := range edges() {
		for _, lat := range []int64{mostStart + 1, -mostStart - 1, mostLat, -mostLat} {
			p.Lat = lat
			refused = append(refused, p)
		}
	}
	for _, p := range refused {
		if f, e := earth.New(p); f != nil || e != api.EARG {
			t.Errorf("P8.1: New of %v: %v, error %d, not EARG", p, f, e)
		}
	}
}

func TestScale(t *testing.T) {
	for _, r := range [][3]int64{
		{0, 12157770197, 12239707452},
		{1, 12157770197, 12239707452},
		{300000000, 12188354954, 10608778712},
		{-300000000, 12188354954, 10608778712},
		{450000000, 12219068144, 8669301187},
		{473977420, 12224215929, 8300185014},
		{600000000, 12249910544, 6135275043},
		{-mostStart, 12279939929, 1070322075},
		{mostStart, 12279939929, 1070322075},
	} {
		for _, o := range []earth.Place{{Lat: r[0]}, {Lat: r[0], Lon: -mostLon, Alt: mostAlt}, {Lat: r[0], Lon: 5, Alt: -mostAlt}} {
			f := frame(t, o)
			for range 2 {
				if north, east := f.Scale(); north != r[1] || east != r[2] {
					t.Errorf("P8.1: Scale at %v: %d, %d, not %d, %d", o, north, east, r[1], r[2])
				}
			}
		}
	}
}

// The scales are those of the ellipsoid with an axis of 6378137 m and that eccentricity.
func TestScaleIsTheEarths(t *testing.T) {
	squared := 7188036.0 / one
	for lat := int64(-mostStart); lat <= mostStart; lat += 12345678 {
		north, east := frame(t, earth.Place{Lat: lat}).Scale()
		sine, cosine := math.Sincos(float64(lat) / equal * math.Pi)
		w := 1 - squared*sine*sine
		length := 6378137 / math.Sqrt(w) * math.Pi / equal * (1 << 40)
		for _, r := range [][2]float64{{float64(north), length * (1 - squared) / w}, {float64(east), length * cosine}} {
			if math.Abs(r[0]-r[1]) > 1000 {
				t.Fatalf("P8.1: Scale at %d is %d, %d, with %f not near %f", lat, north, east, r[0], r[1])
			}
		}
	}
}

// path is an origin, a place, and where the place lies from there.
type path struct {
	o, p earth.Place
	want vec.V
}

// checkTo holds To against what it must answer: with the flag not set before it, and with the flag set.
func checkTo(t *testing.T, r path) {
	t.Helper()
	f := frame(t, r.o)
	for _, before := range []bool{false, true} {
		c := &fx.Acc{Hit: before}
		for range 2 {
			if got, e := f.To(c, r.p); got != r.want || e != api.OK || c.Hit != before {
				t.Errorf("P8.2: To of %v from %v, flag %v: %v, error %d, flag %v, not %v", r.p, r.o, before, got, e, c.Hit, r.want)
			}
		}
	}
}

func TestTo(t *testing.T) {
	for _, r := range []path{
		{earth.Place{}, earth.Place{}, vec.V{}},
		{earth.Place{}, earth.Place{Lat: 1}, vec.V{11872822, 0, 0}},
		{earth.Place{}, earth.Place{Lon: -1}, vec.V{0, -11952839, 0}},
		// Down, from thousandths to the format Q: it is rounded.
		{earth.Place{}, earth.Place{Alt: 1}, vec.V{0, 0, -1073742}},
		{earth.Place{}, earth.Place{Alt: -1000}, vec.V{0, 0, one}},
		{earth.Place{Alt: 3}, earth.Place{}, vec.V{0, 0, 3221225}},
		{earth.Place{Alt: -mostAlt}, earth.Place{Alt: mostAlt}, vec.V{0, 0, -200000 * one}},
		{earth.Place{Alt: mostAlt}, earth.Place{Alt: -mostAlt}, vec.V{0, 0, 200000 * one}},
		{earth.Place{Lat: 473977420, Lon: 85455940, Alt: 500000}, earth.Place{Lat: 473987420, Lon: 85465940, Alt: 510123},
			vec.V{119377108682, 81056494277, -10869488484}},
		// The poles may be told, from an origin as far from them as may be.
		{earth.Place{Lat: -mostStart}, earth.Place{Lat: mostLat}, vec.V{20986225464599609, 0, 0}},
		{earth.Place{Lat: mostStart}, earth.Place{Lat: -mostLat}, vec.V{-20986225464599609, 0, 0}},
		// The short way round, which may lead past the greatest Lon.
		{earth.Place{Lon: 1799999999}, earth.Place{Lat: -5, Lon: -1799999999, Alt: -1}, vec.V{-59364112, 23905679, 1073742}},
		{earth.Place{Lon: -1799999999}, earth.Place{Lon: 1799999999}, vec.V{0, -23905679, 0}},
		{earth.Place{Lon: -mostLon}, earth.Place{Lon: mostLon}, vec.V{}},
		{earth.Place{Lon: mostLon}, earth.Place{Lon: -mostLon}, vec.V{}},
		{earth.Place{Lon: mostLon}, earth.Place{Lon: 1 - mostLon}, vec.V{0, 11952839, 0}},
		// Half round, it goes to the east.
		{earth.Place{}, earth.Place{Lon: mostLon}, vec.V{0, 21515110755468750, 0}},
		{earth.Place{}, earth.Place{Lon: -mostLon}, vec.V{0, 21515110755468750, 0}},
		{earth.Place{Lon: 900000000}, earth.Place{Lon: -900000000}, vec.V{0, 21515110755468750, 0}},
		{earth.Place{Lon: -900000000}, earth.Place{Lat: 1, Lon: 900000000}, vec.V{11872822, 21515110755468750, 0}},
		{earth.Place{Lon: 1}, earth.Place{Lon: -1799999998}, vec.V{0, -21515110743515911, 0}},
		{earth.Place{Lon: -1}, earth.Place{Lon: mostLon}, vec.V{0, -21515110743515911, 0}},
		{earth.Place{Lon: 1}, earth.Place{Lon: mostLon}, vec.V{0, 21515110743515911, 0}},
	} {
		checkTo(t, r)
	}
}

// The origin itself is where nothing is.
func TestToOfTheOrigin(t *testing.T) {
	for i, o := range edges() {
		o.Lat = o.Lat / mostLat * (mostStart - int64(i))
		checkTo(t, path{o, o, vec.V{}})
	}
}

func TestToOfWhatIsNotGood(t *testing.T) {
	f := frame(t, earth.Place{Lat: 473977420, Lon: 85455940, Alt: 500000})
	for _, p := range beyond() {
		for _, before := range []bool{false, true} {
			c := &fx.Acc{Hit: before}
			if got, e := f.To(c, p); got != (vec.V{}) || e != api.EARG || c.Hit != before {
				t.Errorf("P8.2: To of %v, flag %v: %v, error %d, flag %v, not EARG", p, before, got, e, c.Hit)
			}
		}
	}
	want := vec.V{119377108682, 81056494277, -10869488484}
	if got, e := f.To(&fx.Acc{}, earth.Place{Lat: 473987420, Lon: 85465940, Alt: 510123}); got != want || e != api.OK {
		t.Errorf("P8.2: To after what is not good: %v, error %d, not %v", got, e, want)
	}
}

// A frame keeps its origin, whatever others are made, and whatever becomes of the place that it was made from.
func TestFramesAreApart(t *testing.T) {
	o := earth.Place{Lat: 300000000, Lon: 7, Alt: 5}
	f := frame(t, o)
	o.Lat, o.Lon, o.Alt = 0, 0, 0
	g := frame(t, o)
	c := &fx.Acc{}
	if got, e := f.To(c, earth.Place{Lat: 300000000, Lon: 7, Alt: 5}); got != (vec.V{}) || e != api.OK {
		t.Errorf("P8.2: To of the origin, beside another frame: %v, error %d", got, e)
	}
	if got, e := g.To(c, earth.Place{}); got != (vec.V{}) || e != api.OK {
		t.Errorf("P8.2: To of the origin of the other frame: %v, error %d", got, e)
	}
	if north, east := f.Scale(); north != 12188354954 || east != 10608778712 {
		t.Errorf("P8.1: Scale beside another frame: %d, %d", north, east)
	}
}

// checkDeclination holds Declination against what it must answer, at any height: with the flag not set before it, and with the flag set.
func checkDeclination(t *testing.T, lat, lon, want int64) {
	t.Helper()
	for _, before := range []bool{false, true} {
		c := &fx.Acc{Hit: before}
		for _, alt := range []int64{0, mostAlt, -mostAlt} {
			p := earth.Place{Lat: lat, Lon: lon, Alt: alt}
			if got, e := earth.Declination(c, p); got != want || e != api.OK || c.Hit != before {
				t.Errorf("P8.3: Declination at %v, flag %v: %d, error %d, flag %v, not %d", p, before, got, e, c.Hit, want)
			}
		}
	}
}

func TestDeclination(t *testing.T) {
	for _, r := range [][3]int64{
		{0, 0, -93701651},
		{1, -1, -93701651},
		{mostLat, mostLon, 187403301},
		{-mostLat, -mostLon, 562209904},
		{-mostLat, mostLon, 562209904},
		{mostLat, -mostLon, 187403301},
		{473977420, 85455940, 42162492},
		{-123456789, -987654321, 103839055},
		// Halfway between two numbers of the table, and between four of them.
		{0, 300000000, -74961321},
		{225000000, 0, -37480660},
		{-225000000, 300000000, -318585612},
	} {
		checkDeclination(t, r[0], r[1], r[2])
	}
}

// table is the chapter's, in hundredths of a degree.
func table() [5][7]int64 {
	return [5][7]int64{
		{3000, 6000, -2000, -1500, -6000, -9000, 3000},
		{2200, 2500, 500, -2200, -3800, 0, 2200},
		{950, 900, -1400, -500, -300, 100, 950},
		{500, 1500, -1700, 100, 700, -800, 500},
		{1000, 4000, -3000, 500, 3500, -1200, 1000},
	}
}

// At the table's own places, the angle is its number.
func TestDeclinationOfTheTable(t *testing.T) {
	for i, row := range table() {
		for j, hundredths := range row {
			want := int64(math.Round(float64(hundredths) * half / 18000))
			checkDeclination(t, int64(i)*450000000-mostLat, int64(j)*600000000-mostLon, want)
		}
	}
}

func TestDeclinationOfWhatIsNotGood(t *testing.T) {
	for _, p := range beyond() {
		for _, before := range []bool{false, true} {
			c := &fx.Acc{Hit: before}
			if got, e := earth.Declination(c, p); got != 0 || e != api.EARG || c.Hit != before {
				t.Errorf("P8.3: Declination at %v, flag %v: %d, error %d, flag %v, not EARG", p, before, got, e, c.Hit)
			}
		}
	}
}
