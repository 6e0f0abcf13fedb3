package view

import (
	"math"
	"math/big"
	"testing"

	"rastrum/api"
)

const (
	maxClip  = 1 << 36
	maxPlace = 1 << 28
	maxZ     = 1<<24 - 1
)

var (
	noWin  = api.Win{}
	unlike = api.Color{0, 7, 128, 255}
	plain  = api.Port{W: 10, H: 6}
)

// at is a vertex of these coordinates and four unlike numbers of color.
func at(x, y, z, w int) api.Vert {
	return api.Vert{X: x, Y: y, Z: z, W: w, C: unlike}
}

// win is a place with its depth, of the color that at gives.
func win(x, y, z int) api.Win {
	return api.Win{X: x, Y: y, Z: z, C: unlike}
}

// changed is v, its i-th number (X, Y, Z, W, and then its color's) being n.
func changed(v api.Vert, i, n int) api.Vert {
	if i >= 4 {
		v.C[i-4] = n
		return v
	}
	*[]*int{&v.X, &v.Y, &v.Z, &v.W}[i] = n
	return v
}

// refitted is p, its i-th number (X, Y, W, H) being n.
func refitted(p api.Port, i, n int) api.Port {
	*[]*int{&p.X, &p.Y, &p.W, &p.H}[i] = n
	return p
}

// multiple is v, all of its coordinates taken k times.
func multiple(v api.Vert, k int) api.Vert {
	v.X, v.Y, v.Z, v.W = k*v.X, k*v.Y, k*v.Z, k*v.W
	return v
}

// ends are numbers further out than any that may be, of which some look right where bits are lost.
func ends() []int {
	return []int{math.MinInt, math.MinInt + 1, math.MaxInt, math.MaxInt - 1, 1 << 62, -1 << 62, 1<<62 + 1, 1 << 48, -1 << 48, 1<<40 + 3, 1<<37 + 1}
}

// bounds are the least and the greatest number of each kind that may be.
type bounds struct{ least, most int }

// ofVertex are the bounds of a vertex's numbers, in changed's order.
func ofVertex() [8]bounds {
	way, color := bounds{-maxClip, maxClip}, bounds{0, 255}
	return [8]bounds{way, way, way, {1, maxClip}, color, color, color, color}
}

// ofPort are the bounds of a port's numbers, in refitted's order.
func ofPort() [4]bounds {
	corner, length := bounds{-8192, 8192}, bounds{0, 4096}
	return [4]bounds{corner, corner, length, length}
}

// outside are numbers that are beyond b.
func (b bounds) outside() []int {
	l := append(ends(), b.least-1, b.least-2, b.most+1, b.most+2, 2*b.most+1, b.most+1<<32, b.least-1<<32, 1<<38)
	if b.least == 1 {
		l = append(l, -b.most)
	}
	return l
}

// inside are numbers that may be, the least and the greatest ones and those beside them among these.
func (b bounds) inside() []int {
	return []int{b.least, b.least + 1, b.most - 1, b.most, b.least/2 + b.most/2, b.least/2 + b.most/2 + 1, b.most / 3}
}

// goodVertices are some that may be.
func goodVertices() []api.Vert {
	white := api.Color{255, 255, 255, 255}
	return []api.Vert{at(0, 0, 0, 1), at(3, -4, 5, 6), {W: 1}, at(maxClip, maxClip, maxClip, maxClip),
		at(-maxClip, -maxClip, -maxClip, maxClip), {X: maxClip, Y: -maxClip, Z: maxClip, W: 1, C: white}}
}

// goodPorts are some that may be.
func goodPorts() []api.Port {
	return []api.Port{{}, plain, {X: -3, Y: 5, W: 7, H: 9}, {X: 8192, Y: 8192, W: 4096, H: 4096}, {X: -8192, Y: -8192},
		{X: -8192, Y: 8192, W: 1, H: 4095}, {X: 100, Y: -200, W: 640, H: 480}}
}

// chance is a row of numbers that look like chance and are the same at each run.
type chance uint64

// from is the next number from least to most.
func (c *chance) from(least, most int) int {
	*c ^= *c << 13
	*c ^= *c >> 7
	*c ^= *c << 17
	return least + int(*c>>1)%(most-least+1)
}

// vert is a vertex that may be, its W at most far, and its other coordinates at most spread times as much.
func (c *chance) vert(far, spread int) api.Vert {
	w := c.from(1, far)
	most := min(maxClip, w*spread)
	v := api.Vert{X: c.from(-most, most), Y: c.from(-most, most), Z: c.from(-most, most), W: w}
	for i := range v.C {
		v.C[i] = c.from(0, 255)
	}
	return v
}

// port is one that may be.
func (c *chance) port() api.Port {
	return api.Port{X: c.from(-8192, 8192), Y: c.from(-8192, 8192), W: c.from(0, 4096), H: c.from(0, 4096)}
}

// quotient is a times b, divided by d, which is above 0, rounded down, by numbers without an end.
func quotient(a, b, d int) int {
	q := new(big.Int).Mul(big.NewInt(int64(a)), big.NewInt(int64(b)))
	// Euclid's quotient by a divisor above 0 is rounded down.
	return int(q.Div(q, big.NewInt(int64(d))).Int64())
}

// slowMap is what Map must answer of a vertex and a port that may be.
func slowMap(v api.Vert, p api.Port) (api.Win, api.Errno) {
	x := p.X*256 + quotient(p.W*128, v.X+v.W, v.W)
	y := p.Y*256 + quotient(p.H*128, v.Y+v.W, v.W)
	if max(x, y) > maxPlace || min(x, y) < -maxPlace {
		return noWin, api.ErrPlace
	}
	return api.Win{X: x, Y: y, Z: min(max(quotient(maxZ, v.Z+v.W, 2*v.W), 0), maxZ), C: v.C}, api.OK
}

func checkMap(t *testing.T, promise string, v api.Vert, p api.Port, want api.Win, e api.Errno) {
	t.Helper()
	if got, f := Map(v, p); got != want || f != e {
		t.Errorf("%s: Map(%v, %v): %v, %d; not %v, %d", promise, v, p, got, f, want, e)
	}
}

// checkSlow holds Map against slowMap, which is the answer.
func checkSlow(t *testing.T, v api.Vert, p api.Port) (api.Win, api.Errno) {
	t.Helper()
	want, e := slowMap(v, p)
	checkMap(t, "P11.2", v, p, want, e)
	return want, e
}

// placed is what Map answers where it may not refuse.
func placed(t *testing.T, v api.Vert, p api.Port) api.Win {
	t.Helper()
	got, e := Map(v, p)
	if e != api.OK {
		t.Errorf("P11.3: Map(%v, %v): %d, where nothing is wrong", v, p, e)
	}
	return got
}

func TestRight(t *testing.T) {
	for _, p := range goodPorts() {
		if !Right(p) {
			t.Errorf("P11.1: the port %v may not be", p)
		}
		for i, b := range ofPort() {
			for _, n := range b.inside() {
				if q := refitted(p, i, n); !Right(q) {
					t.Errorf("P11.1: the port %v may not be", q)
				}
			}
			for _, n := range b.outside() {
				if q := refitted(p, i, n); Right(q) {
					t.Errorf("P11.1: the port %v may be", q)
				}
			}
		}
	}
	for _, n := range append(ends(), 8193, -8193) {
		if Right(api.Port{X: n, Y: n, W: n, H: n}) {
			t.Errorf("P11.1: a port of %d alone may be", n)
		}
	}
}

// checkRow holds that all units of the pixel k are in it, and that those beside them aren't.
func checkRow(t *testing.T, k int) {
	t.Helper()
	for u := 256*k - 1; u <= 256*k+256; u++ {
		want := k
		switch u {
		case 256*k - 1:
			want = k - 1
		case 256*k + 256:
			want = k + 1
		}
		if got := Pixel(u); got != want {
			t.Errorf("P11.1: Pixel(%d): %d, not %d", u, got, want)
		}
	}
}

func TestPixel(t *testing.T) {
	for k := -20; k <= 20; k++ {
		checkRow(t, k)
	}
	for i := 5; i < 54; i++ {
		for k := 1<<i - 1; k <= 1<<i+1; k++ {
			checkRow(t, k)
			checkRow(t, -k)
		}
	}
	cases := []struct{ u, want int }{
		{0, 0}, {255, 0}, {256, 1}, {-1, -1}, {-255, -1}, {-256, -1}, {-257, -2}, {-512, -2}, {-513, -3},
		{maxPlace, 1 << 20}, {-maxPlace, -1 << 20}, {maxPlace - 1, 1<<20 - 1}, {-maxPlace - 1, -1<<20 - 1},
		{math.MaxInt, 1<<55 - 1}, {math.MaxInt - 255, 1<<55 - 1}, {math.MaxInt - 256, 1<<55 - 2},
		{math.MinInt, -1 << 55}, {math.MinInt + 255, -1 << 55}, {math.MinInt + 256, 1 - 1<<55},
	}
	for _, c := range cases {
		if got := Pixel(c.u); got != c.want {
			t.Errorf("P11.1: Pixel(%d): %d, not %d", c.u, got, c.want)
		}
	}
	c := chance(1)
	for range 20000 {
		if u := c.from(-1<<61, 1<<61); Pixel(u) != quotient(u, 1, 256) {
			t.Errorf("P11.1: Pixel(%d): %d, not %d", u, Pixel(u), quotient(u, 1, 256))
		}
	}
}

// TestMapOfAPlainPort has what is seen of a port at nought: its middle, its sides, its corners, and what is outside of it.
func TestMapOfAPlainPort(t *testing.T) {
	cases := []struct {
		v    api.Vert
		want api.Win
	}{
		{at(0, 0, 0, 7), win(1280, 768, 8388607)},
		{at(-7, 0, 0, 7), win(0, 768, 8388607)},
		{at(7, 0, 0, 7), win(2560, 768, 8388607)},
		{at(0, -7, 0, 7), win(1280, 0, 8388607)},
		{at(0, 7, 0, 7), win(1280, 1536, 8388607)},
		{at(-7, -7, -7, 7), win(0, 0, 0)},
		{at(7, -7, -7, 7), win(2560, 0, 0)},
		{at(7, 7, 7, 7), win(2560, 1536, maxZ)},
		{at(-7, 7, 7, 7), win(0, 1536, maxZ)},
		{at(1, 2, -1, 4), win(1600, 1152, 6291455)},
		{at(-1, -2, 1, 4), win(960, 384, 10485759)},
		{at(1, 1, 1, 3), win(1706, 1024, 11184810)},
		{at(-1, -1, -1, 3), win(853, 512, 5592405)},
		{at(14, -21, 0, 7), win(3840, -1536, 8388607)},
		{at(-14, 21, 0, 7), win(-1280, 3072, 8388607)},
		{at(6, 8, 0, 7), win(2377, 1645, 8388607)},
		{at(-8, -8, 0, 7), win(-183, -110, 8388607)},
	}
	for _, c := range cases {
		checkMap(t, "P11.2", c.v, plain, c.want, api.OK)
	}
}

// TestMapOfAnOddPort has a port of odd sides, that begins below 0 one way and above the other way.
func TestMapOfAnOddPort(t *testing.T) {
	port := api.Port{X: -3, Y: 5, W: 7, H: 9}
	cases := []struct {
		v    api.Vert
		want api.Win
	}{
		{at(0, 0, 0, 1), win(128, 2432, 8388607)},
		{at(-1, -1, -1, 1), win(-768, 1280, 0)},
		{at(1, 1, 1, 1), win(1024, 3584, maxZ)},
		{at(1, -1, 0, 3), win(426, 2048, 8388607)},
		{at(-1, 1, 0, 3), win(-171, 2816, 8388607)},
		{at(-4, -4, 0, 3), win(-1067, 896, 8388607)},
		{at(-5, -5, 0, 3), win(-1366, 512, 8388607)},
		{at(-6, -6, 0, 3), win(-1664, 128, 8388607)},
		{at(-9, -9, 0, 7), win(-1024, 950, 8388607)},
		{at(-10, -10, 0, 7), win(-1152, 786, 8388607)},
		{at(-8, -8, 0, 7), win(-896, 1115, 8388607)},
		{at(-12, -12, 0, 11), win(-850, 1175, 8388607)},
	}
	for _, c := range cases {
		checkMap(t, "P11.2", c.v, port, c.want, api.OK)
	}
	checkMap(t, "P11.2", at(5, -9, 3, 4), api.Port{X: 6, Y: -2}, win(1536, -512, 14680063), api.OK)
	checkMap(t, "P11.2", at(5, -9, 3, 4), api.Port{X: 6, Y: -2, W: 2}, win(2112, -512, 14680063), api.OK)
	checkMap(t, "P11.2", at(5, -9, 3, 4), api.Port{X: 6, Y: -2, H: 2}, win(1536, -832, 14680063), api.OK)
}

// TestMapRoundsDown goes through all that may be left over, above nought and below.
func TestMapRoundsDown(t *testing.T) {
	for w := 1; w <= 24; w++ {
		for n := -3*w - 2; n <= 3*w+2; n++ {
			for _, p := range goodPorts() {
				checkSlow(t, at(n, -n, n, w), p)
				checkSlow(t, at(n-1, n, 1-n, w), p)
			}
		}
	}
	// With one pixel's half a side in W there is a unit for each step.
	for n := -400; n <= 400; n++ {
		checkMap(t, "P11.2", at(n, -n, 0, 128), api.Port{W: 1, H: 1}, win(n+128, 128-n, 8388607), api.OK)
		checkMap(t, "P11.2", at(n, n, 0, 256), api.Port{W: 1, H: 1}, win(n>>1+128, n>>1+128, 8388607), api.OK)
	}
}

// TestMapKeepsNumbersApart has each number move just what hangs on it.
func TestMapKeepsNumbersApart(t *testing.T) {
	v, p := at(1, -2, 3, 8), api.Port{X: 10, Y: 20, W: 16, H: 32}
	checkMap(t, "P11.2", v, p, win(4864, 8192, 11534335), api.OK)
	checkMap(t, "P11.2", changed(v, 0, 2), p, win(5120, 8192, 11534335), api.OK)
	checkMap(t, "P11.2", changed(v, 1, -4), p, win(4864, 7168, 11534335), api.OK)
	checkMap(t, "P11.2", changed(v, 2, 4), p, win(4864, 8192, 12582911), api.OK)
	checkMap(t, "P11.2", changed(v, 3, 4), p, win(5120, 7168, 14680063), api.OK)
	checkMap(t, "P11.2", v, refitted(p, 0, 11), win(5120, 8192, 11534335), api.OK)
	checkMap(t, "P11.2", v, refitted(p, 1, 19), win(4864, 7936, 11534335), api.OK)
	checkMap(t, "P11.2", v, refitted(p, 2, 8), win(3712, 8192, 11534335), api.OK)
	checkMap(t, "P11.2", v, refitted(p, 3, 64), win(4864, 11264, 11534335), api.OK)
	for i := range 4 {
		for _, n := range []int{0, 1, 77, 254, 255} {
			want := win(4864, 8192, 11534335)
			want.C[i] = n
			checkMap(t, "P11.2", changed(v, 4+i, n), p, want, api.OK)
		}
	}
	for _, n := range []int{0, 255} {
		c := api.Color{n, n, n, n}
		checkMap(t, "P11.2", api.Vert{W: 1, C: c}, plain, api.Win{X: 1280, Y: 768, Z: 8388607, C: c}, api.OK)
	}
}

func TestMapDepths(t *testing.T) {
	cases := []struct{ z, w, want int }{
		{0, 1, 8388607}, {0, maxClip, 8388607}, {1, 1, maxZ}, {-1, 1, 0}, {2, 1, maxZ}, {-2, 1, 0}, {-3, 2, 0}, {3, 2, maxZ},
		{1, 2, 12582911}, {-1, 2, 4194303}, {1, 3, 11184810}, {-1, 3, 5592405}, {1, 15, 8947848}, {-14, 15, 559240},
		// Just beside the nearest and the farthest.
		{999, 1000, 16768826}, {-999, 1000, 8388}, {1001, 1000, maxZ}, {-1001, 1000, 0},
		{maxClip - 1, maxClip, maxZ - 1}, {1 - maxClip, maxClip, 0}, {maxClip, maxClip - 1, maxZ}, {-maxClip, maxClip - 1, 0},
		{maxClip, maxClip, maxZ}, {-maxClip, maxClip, 0}, {maxClip, 1, maxZ}, {-maxClip, 1, 0},
		// The least step that there is: one more of Z than would be needed for each depth, and one less.
		{2 - maxZ, maxZ, 1}, {1 - maxZ, maxZ, 0}, {3 - maxZ, maxZ, 1}, {4 - maxZ, maxZ, 2},
		{maxZ - 2, maxZ, maxZ - 1}, {maxZ - 1, maxZ, maxZ - 1}, {maxZ - 3, maxZ, maxZ - 2}, {maxZ + 1, maxZ, maxZ}, {-1 - maxZ, maxZ, 0},
	}
	for _, c := range cases {
		for _, p := range goodPorts() {
			got, e := Map(at(0, 0, c.z, c.w), p)
			if got.Z != c.want || e != api.OK {
				t.Errorf("P11.2: depth %d of Z %d, W %d in %v, %d; not %d", got.Z, c.z, c.w, p, e, c.want)
			}
			checkSlow(t, at(0, 0, c.z, c.w), p)
		}
	}
}

// toPlace is the coordinate that lies at the unit u of a side that begins at the pixel begin and is so long, where W is of 128
// times that length: there each one more of it is a unit more.
func toPlace(u, begin, length int) int {
	return u - 256*begin - 128*length
}

// TestMapAtTheEndsOfPlaces has places at their bounds, and one beyond them.
func TestMapAtTheEndsOfPlaces(t *testing.T) {
	for _, begin := range []int{0, 1, -1, 8192, -8192} {
		for _, length := range []int{1, 3, 10, 4095, 4096} {
			p := api.Port{X: begin, Y: begin, W: length, H: length}
			of := func(x, y int) api.Vert {
				return at(toPlace(x, begin, length), toPlace(y, begin, length), 0, 128*length)
			}
			for _, good := range []int{maxPlace, maxPlace - 1, -maxPlace, 1 - maxPlace} {
				checkMap(t, "P11.2", of(good, 5), p, win(good, 5, 8388607), api.OK)
				checkMap(t, "P11.2", of(-6, good), p, win(-6, good, 8388607), api.OK)
				checkMap(t, "P11.2", of(good, good), p, win(good, good, 8388607), api.OK)
				checkMap(t, "P11.2", of(good, -good), p, win(good, -good, 8388607), api.OK)
				for _, bad := range []int{maxPlace + 1, -maxPlace - 1, maxPlace + 2, 2 * maxPlace, -2 * maxPlace, 1<<32 + 1, -1 << 32} {
					checkMap(t, "P11.2", of(bad, good), p, noWin, api.ErrPlace)
					checkMap(t, "P11.2", of(good, bad), p, noWin, api.ErrPlace)
					checkMap(t, "P11.2", of(bad, 5), p, noWin, api.ErrPlace)
					checkMap(t, "P11.2", of(-6, bad), p, noWin, api.ErrPlace)
					checkMap(t, "P11.2", of(bad, bad), p, noWin, api.ErrPlace)
					checkMap(t, "P11.2", of(bad, -bad), p, noWin, api.ErrPlace)
				}
			}
		}
	}
	// Each step is a half of a unit: what is left over is lost downward, which is one beyond just at the least place.
	p, y := api.Port{W: 4096, H: 4096}, 1<<20
	checkMap(t, "P11.2", at(2*maxPlace-y, 0, 0, y), p, win(maxPlace, 1<<19, 8388607), api.OK)
	checkMap(t, "P11.2", at(2*maxPlace-y+1, 0, 0, y), p, win(maxPlace, 1<<19, 8388607), api.OK)
	checkMap(t, "P11.2", at(2*maxPlace-y+2, 0, 0, y), p, noWin, api.ErrPlace)
	checkMap(t, "P11.2", at(0, -2*maxPlace-y, 0, y), p, win(1<<19, -maxPlace, 8388607), api.OK)
	checkMap(t, "P11.2", at(0, -2*maxPlace-y-1, 0, y), p, noWin, api.ErrPlace)
	checkMap(t, "P11.2", at(0, -2*maxPlace-y+1, 0, y), p, win(1<<19, -maxPlace, 8388607), api.OK)
}

// TestMapOfTheGreatest has coordinates at their bounds, at W and beside it, of the greatest W and of 1.
func TestMapOfTheGreatest(t *testing.T) {
	answers := map[api.Errno]int{}
	for _, w := range []int{1, 2, 3, 4095, 1 << 16, 1 << 27, 1<<28 + 1, 1 << 35, maxClip - 1, maxClip} {
		l := []int{-maxClip, 1 - maxClip, -w - 1, -w, 1 - w, -1, 0, 1, w - 1, w, w + 1, maxClip - 1, maxClip}
		for _, x := range l {
			for _, y := range l {
				for _, p := range goodPorts() {
					if max(x, -x, y, -y) > maxClip {
						continue
					}
					_, e := checkSlow(t, at(x, y, x, w), p)
					answers[e]++
				}
			}
		}
	}
	if answers[api.OK] < 1000 || answers[api.ErrPlace] < 1000 {
		t.Errorf("answers of the greatest: %v: too few to tell anything", answers)
	}
	// However far to the side a vertex is, a port without a width has it where it begins.
	checkMap(t, "P11.2", at(maxClip, -maxClip, 0, 1), api.Port{X: 8192, Y: -8192}, win(1<<21, -1<<21, 8388607), api.OK)
	checkMap(t, "P11.2", at(maxClip, 0, 0, maxClip), api.Port{X: 8192, Y: 8192, W: 4096, H: 4096}, win(3<<20, 5<<19, 8388607), api.OK)
}

func TestMapRefusesVertices(t *testing.T) {
	for _, v := range goodVertices() {
		for i, b := range ofVertex() {
			for _, n := range b.outside() {
				for _, p := range goodPorts() {
					// Also where the place would be none: some of these vertices are that far.
					checkMap(t, "P11.2", changed(v, i, n), p, noWin, api.ErrArg)
				}
			}
			for _, n := range b.inside() {
				for _, p := range goodPorts() {
					checkSlow(t, changed(v, i, n), p)
				}
			}
		}
	}
	for _, w := range []int{0, -1, -2, -255, -maxClip, math.MinInt} {
		checkMap(t, "P11.2", api.Vert{W: w}, api.Port{}, noWin, api.ErrArg)
		checkMap(t, "P11.2", at(1, 1, 1, w), plain, noWin, api.ErrArg)
	}
	checkMap(t, "P11.2", api.Vert{}, api.Port{}, noWin, api.ErrArg)
}

func TestMapRefusesPorts(t *testing.T) {
	for _, p := range goodPorts() {
		for i, b := range ofPort() {
			for _, n := range b.outside() {
				wrong := refitted(p, i, n)
				for _, v := range goodVertices() {
					checkMap(t, "P11.2", v, wrong, noWin, api.ErrArg)
				}
				for k, c := range ofVertex() {
					checkMap(t, "P11.2", changed(at(1, 2, 3, 4), k, c.most+1), wrong, noWin, api.ErrArg)
					checkMap(t, "P11.2", changed(at(1, 2, 3, 4), k, c.least-1), wrong, noWin, api.ErrArg)
				}
			}
		}
	}
}

// TestMapByChance holds places against those by numbers without an end.
func TestMapByChance(t *testing.T) {
	c, answers := chance(3), map[api.Errno]int{}
	for i := range 60000 {
		v, p := c.vert(maxClip>>(i%37), 1<<(i%14)), c.port()
		_, e := checkSlow(t, v, p)
		answers[e]++
	}
	if answers[api.OK] < 20000 || answers[api.ErrPlace] < 500 {
		t.Errorf("answers by chance: %v: too few to tell anything", answers)
	}
}

// TestWhatIsSeenIsInThePort has what is W or less from the middle, and what is more.
func TestWhatIsSeenIsInThePort(t *testing.T) {
	c := chance(5)
	for i := range 20000 {
		p, v := c.port(), c.vert(maxClip>>(1+i%35), 1)
		switch i % 5 {
		case 0:
			v.X = v.W
		case 1:
			v.X = -v.W
		case 2:
			v.Y = v.W
		case 3:
			v.Y = -v.W
		}
		got := placed(t, v, p)
		if got.X < 256*p.X || got.X > 256*(p.X+p.W) || got.Y < 256*p.Y || got.Y > 256*(p.Y+p.H) {
			t.Errorf("P11.3: %v is at %v, outside of %v", v, got, p)
		}
		if p.W == 0 || p.H == 0 {
			continue
		}
		beside := placed(t, at(-v.W-1, -v.W-1, 0, v.W), p)
		if beside.X >= 256*p.X || beside.Y >= 256*p.Y {
			t.Errorf("P11.3: just left of and below what is seen, of W %d, is %v, in %v", v.W, beside, p)
		}
		beside = placed(t, at(v.W+1, v.W+1, 0, v.W), p)
		if beside.X < 256*(p.X+p.W) || beside.Y < 256*(p.Y+p.H) {
			t.Errorf("P11.3: just right of and above what is seen, of W %d, is %v, in %v", v.W, beside, p)
		}
	}
}

// TestMultiplesHaveTheSamePlace has all coordinates multiplied by one number, up to the greatest one.
func TestMultiplesHaveTheSamePlace(t *testing.T) {
	c, refused := chance(7), 0
	for i := range 20000 {
		v, p := c.vert(1+maxClip>>(1+i%35), 1<<(i%12)), c.port()
		want, e := Map(v, p)
		if e != api.OK {
			refused++
		}
		most := maxClip / max(v.X, -v.X, v.Y, -v.Y, v.Z, -v.Z, v.W)
		for _, k := range []int{1, min(2, most), min(3, most), most/2 + 1, most} {
			checkMap(t, "P11.3", multiple(v, k), p, want, e)
		}
	}
	if refused < 100 || refused > 10000 {
		t.Errorf("of 20000 vertices %d have no place: too few or too many to tell anything", refused)
	}
	v := at(-5, 9, 2, 7)
	for _, k := range []int{2, 3, 255, 1 << 20, 1 << 32, maxClip / 9} {
		checkMap(t, "P11.3", multiple(v, k), plain, win(365, 1755, 10785352), api.OK)
	}
}

// TestPlacesRise has each coordinate grow, all others staying.
func TestPlacesRise(t *testing.T) {
	c := chance(9)
	for i := range 20000 {
		v, p := c.vert(maxClip>>(i%37), 3), c.port()
		before, i := placed(t, v, p), i%3
		old := []int{v.X, v.Y, v.Z}[i]
		// The next one, or one further up.
		more := changed(v, i, min(old+c.from(1, 1+v.W*c.from(0, 1)), maxClip))
		after := placed(t, more, p)
		was, is := [3]int{before.X, before.Y, before.Z}, [3]int{after.X, after.Y, after.Z}
		for k := range 3 {
			if is[k] < was[k] || k != i && is[k] != was[k] {
				t.Errorf("P11.3: in %v, %v is at %v, and %v at %v", p, v, before, more, after)
			}
		}
	}
	// Where W has no more steps than the port has units, each step is seen.
	for n := -600; n < 600; n++ {
		v, p := at(n, n, n, 200), api.Port{X: -4, Y: 7, W: 2, H: 3}
		is, next := placed(t, v, p), placed(t, at(n+1, n+1, n+1, 200), p)
		if next.X <= is.X || next.Y <= is.Y || n >= -200 && n < 200 && next.Z <= is.Z {
			t.Errorf("P11.3: in %v, %v is at %v, and the next one at %v", p, v, is, next)
		}
	}
}

// TestPlacesMoveWithThePort has the same vertex in ports of one size.
func TestPlacesMoveWithThePort(t *testing.T) {
	c := chance(11)
	for i := range 20000 {
		v, p := c.vert(maxClip>>(i%37), 3), c.port()
		q := p
		q.X, q.Y = c.from(-8192, 8192), c.from(-8192, 8192)
		got, moved := placed(t, v, p), placed(t, v, q)
		got.X, got.Y = got.X+256*(q.X-p.X), got.Y+256*(q.Y-p.Y)
		if moved != got {
			t.Errorf("P11.3: %v in %v is at %v, not %v", v, q, moved, got)
		}
	}
}
