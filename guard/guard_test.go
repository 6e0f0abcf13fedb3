package guard

import (
	"errors"
	"math"
	"runtime"
	"slices"
	"testing"

	"rastrum/api"
)

// errnos are the errors that the document names, and numbers that it doesn't.
func errnos() []api.Errno {
	l := []api.Errno{13, -1, math.MinInt, math.MaxInt}
	for e := api.OK; e <= api.ErrLong; e++ {
		l = append(l, e)
	}
	return l
}

// noise answers n numbers that look like chance and are the same at each run.
func noise(n int) []uint64 {
	l := make([]uint64, n)
	x := uint64(0x9e3779b97f4a7c15)
	for i := range l {
		x ^= x << 13
		x ^= x >> 7
		x ^= x << 17
		l[i] = x
	}
	return l
}

// thrown does f, and answers what it panicked with, and whether it did.
func thrown(f func()) (value any, panicked bool) {
	panicked = true
	defer func() { value = recover() }()
	f()
	return nil, false
}

func TestFail(t *testing.T) {
	for _, e := range errnos() {
		var done []string
		got := Try(func() {
			done = append(done, "ahead")
			func() {
				defer func() { done = append(done, "deferred") }()
				Fail(e)
				done = append(done, "behind")
			}()
			done = append(done, "further behind")
		})
		done = append(done, "after")
		if got != e {
			t.Errorf("P3.1: Try of Fail(%d): %d", e, got)
		}
		if !slices.Equal(done, []string{"ahead", "deferred", "after"}) {
			t.Errorf("P3.1: done about Fail(%d): %v", e, done)
		}
	}
}

func TestNeed(t *testing.T) {
	for _, e := range errnos() {
		behind := false
		if got := Try(func() { Need(true, e); behind = true }); got != api.OK || !behind {
			t.Errorf("P3.1: Need(true, %d): %d; what is behind it is done: %v", e, got, behind)
		}
		behind = false
		if got := Try(func() { Need(false, e); behind = true }); got != e || behind {
			t.Errorf("P3.1: Need(false, %d): %d; what is behind it is done: %v", e, got, behind)
		}
	}
	got := Try(func() {
		Need(true, api.ErrArg)
		Need(false, api.ErrNaN)
		Need(false, api.ErrInf)
	})
	if got != api.ErrNaN {
		t.Errorf("P3.1: the first Need that lacks something doesn't tell: %d", got)
	}
}

func TestTry(t *testing.T) {
	if got := Try(func() { Fail(api.ErrArg) }); got != api.ErrArg {
		t.Errorf("P3.1: the chapter's example: %d", got)
	}
	times := 0
	if got := Try(func() { times++ }); got != api.OK || times != 1 {
		t.Errorf("P3.1: Try of a function that ends: %d, done %d times", got, times)
	}
	if got := Try(func() { defer Fail(api.ErrFull); Fail(api.ErrArg) }); got != api.ErrFull {
		t.Errorf("P3.1: the Fail that came last, deferred behind another one: %d", got)
	}
	if got := Try(func() {}); got != api.OK {
		t.Errorf("P3.1: an error stayed from an earlier Try: %d", got)
	}
}

// TestOutsideOfTry holds that a Fail that nobody catches panics.
func TestOutsideOfTry(t *testing.T) {
	for _, e := range errnos() {
		if _, panicked := thrown(func() { Fail(e) }); !panicked {
			t.Errorf("P3.1: Fail(%d) without a Try doesn't panic", e)
		}
		if _, panicked := thrown(func() { Need(false, e) }); !panicked {
			t.Errorf("P3.1: Need(false, %d) without a Try doesn't panic", e)
		}
		if p, panicked := thrown(func() { Need(true, e) }); panicked {
			t.Errorf("P3.1: Need(true, %d) without a Try panics: %v", e, p)
		}
	}
	if _, panicked := thrown(func() { Try(func() {}); Fail(api.ErrArg) }); !panicked {
		t.Error("P3.1: a Try that is over catches a Fail behind it")
	}
}

// TestOtherPanics holds that a panic of any other kind goes through Try as it is: errors' numbers, too.
func TestOtherPanics(t *testing.T) {
	type own struct{ n int }
	broken := errors.New("broken")
	values := []any{"text", "", 0, 1, api.OK, api.ErrArg, int64(1), 1.5, true, own{1}, &own{2}, broken, [1]api.Errno{1}}
	for _, v := range values {
		var done []string
		raise := func() {
			defer func() { done = append(done, "deferred") }()
			panic(v)
		}
		p, panicked := thrown(func() {
			Try(func() {
				Try(raise)
				done = append(done, "behind")
			})
			done = append(done, "further behind")
		})
		if !panicked || p != v || !slices.Equal(done, []string{"deferred"}) {
			t.Errorf("P3.1: a panic with %v comes as %v, %v; done: %v", v, p, panicked, done)
		}
		if p, panicked = thrown(func() { Each(3, func(int) { panic(v) }) }); !panicked || p != v {
			t.Errorf("P3.2: in Each a panic with %v comes as %v, %v", v, p, panicked)
		}
	}
}

// TestPanicsOfTheLanguage holds that what the language itself panics with goes through Try, too.
func TestPanicsOfTheLanguage(t *testing.T) {
	none := []int{}
	p, _ := thrown(func() { Try(func() { none[len(none)]++ }) })
	if e, ok := p.(runtime.Error); !ok || e.Error() != "runtime error: index out of range [0] with length 0" {
		t.Errorf("P3.1: a place out of bounds comes as %v", p)
	}
	p, _ = thrown(func() { Try(func() { panic(nil) }) })
	if _, ok := p.(*runtime.PanicNilError); !ok {
		t.Errorf("P3.1: a panic with nil comes as %v", p)
	}
	p, _ = thrown(func() { Try(func() { defer func() { panic("later") }(); Fail(api.ErrArg) }) })
	if p != "later" {
		t.Errorf("P3.1: a panic on the way out of a Fail comes as %v", p)
	}
}

// TestLeavingForGood holds that Try doesn't hold up a goroutine that ends in it.
func TestLeavingForGood(t *testing.T) {
	behind := false
	gone := make(chan int)
	go func() {
		defer close(gone)
		Try(runtime.Goexit)
		behind = true
	}()
	<-gone
	if behind {
		t.Error("P3.1: Try goes on where its goroutine ended")
	}
}

// until answers a function that notes its numbers in done and gives up at the one told.
func until(stop int, e api.Errno, done *[]int) func(int) {
	return func(i int) {
		*done = append(*done, i)
		Need(i != stop, e)
	}
}

// numbers are 0, 1 and so on, n of them.
func numbers(n int) []int {
	var l []int
	for i := 0; i < n; i++ {
		l = append(l, i)
	}
	return l
}

func TestEach(t *testing.T) {
	for _, n := range []int{0, 1, 2, 3, 10, 1000} {
		for _, stop := range []int{-1, 0, 1, n / 2, n - 1, n, n + 1} {
			var done []int
			i, e := Each(n, until(stop, api.ErrRange, &done))
			want, wantE := n, api.OK
			if stop >= 0 && stop < n {
				want, wantE = stop, api.ErrRange
			}
			if i != want || e != wantE {
				t.Errorf("P3.2: Each(%d) with a Fail at %d: %d, %d", n, stop, i, e)
			}
			if !slices.Equal(done, numbers(min(want+1, n))) {
				t.Errorf("P3.2: Each(%d) with a Fail at %d does %v", n, stop, done)
			}
		}
	}
}

func TestEachOfNone(t *testing.T) {
	for _, n := range []int{0, -1, -2, -1000, math.MinInt} {
		i, e := Each(n, func(i int) { t.Errorf("P3.2: Each(%d) does f(%d)", n, i) })
		if i != 0 || e != api.OK {
			t.Errorf("P3.2: Each(%d): %d, %d", n, i, e)
		}
	}
}

func TestEachGoesOnBehindOK(t *testing.T) {
	for _, e := range errnos() {
		var done []int
		i, got := Each(5, until(2, e, &done))
		want := 2
		if e == api.OK {
			want = 5
		}
		if i != want || got != e || !slices.Equal(done, numbers(min(want+1, 5))) {
			t.Errorf("P3.2: Each(5) with Fail(%d) at 2: %d, %d; done %v", e, i, got, done)
		}
	}
	i, e := Each(math.MaxInt, func(i int) { Need(i < 3, api.ErrLong) })
	if i != 3 || e != api.ErrLong {
		t.Errorf("P3.2: Each of the greatest number: %d, %d", i, e)
	}
}

// TestWithin holds that what the inner Try catches is nothing to the outer one.
func TestWithin(t *testing.T) {
	for _, e := range errnos() {
		inner, behind := api.ErrForm, false
		outer := Try(func() {
			inner = Try(func() { Fail(e) })
			behind = true
		})
		if inner != e || outer != api.OK || !behind {
			t.Errorf("P3.3: Fail(%d) in the inner Try: %d, in the outer one %d; behind it: %v", e, inner, outer, behind)
		}
		outer = Try(func() {
			inner = Try(func() { Fail(e) })
			Fail(api.ErrNest)
		})
		if inner != e || outer != api.ErrNest {
			t.Errorf("P3.3: Fail(%d) within, and ErrNest behind it: %d, %d", e, inner, outer)
		}
		outer = Try(func() { Fail(Try(func() { Fail(e) })) })
		if outer != e {
			t.Errorf("P3.3: Fail(%d), handed on: %d", e, outer)
		}
	}
	i, e := Each(3, func(int) { Each(3, func(int) { Fail(api.ErrArg) }) })
	if i != 3 || e != api.OK {
		t.Errorf("P3.3: an Each that gives up within an Each: %d, %d", i, e)
	}
}

// nest does f within n Trys, and answers what the outermost one tells.
func nest(n int, f func()) api.Errno {
	if n == 0 {
		f()
		return api.OK
	}
	return Try(func() { Need(nest(n-1, f) == api.OK, api.ErrNest) })
}

// TestDeep holds all of it at as many levels as the document's limits name.
func TestDeep(t *testing.T) {
	const levels = 1 << 16
	if e := nest(levels, func() {}); e != api.OK {
		t.Errorf("P3.1: deep in Trys, nothing gives up: %d", e)
	}
	if e := nest(levels, func() { Fail(api.ErrArg) }); e != api.ErrNest {
		t.Errorf("P3.3: deep in Trys, each hands on: %d", e)
	}
	if p, _ := thrown(func() { nest(levels, func() { panic("deep") }) }); p != "deep" {
		t.Errorf("P3.1: another panic, deep in Trys, comes as %v", p)
	}
	var dive func(n int)
	dive = func(n int) {
		Need(n > 0, api.ErrFull)
		dive(n - 1)
	}
	if e := Try(func() { dive(levels) }); e != api.ErrFull {
		t.Errorf("P3.1: a Fail, deep in calls: %d", e)
	}
}

// deed is a step of a small program: kind 0 notes, 1 fails, 2 needs, 3 tries its steps, 4 does each of n goes of them.
type deed struct {
	kind, n int
	e       api.Errno
	within  []deed
}

// programs reads small programs out of numbers, as deep as is told.
type programs struct{ left []uint64 }

func (p *programs) take(below int) int {
	n := p.left[0]
	p.left = p.left[1:]
	return int(n >> 33 % uint64(below))
}

func (p *programs) list(depth int) []deed {
	var l []deed
	for range p.take(4) + 1 {
		d := deed{kind: p.take(9) / 2, n: p.take(5) - 1, e: api.Errno(p.take(4))}
		if d.kind >= 3 && depth > 0 {
			d.within = p.list(depth - 1)
		}
		l = append(l, d)
	}
	return l
}

// run does a program by the package's calls, and notes what is done.
func run(l []deed, note func(int)) {
	for _, d := range l {
		switch d.kind {
		case 0:
			note(d.n)
		case 1:
			Fail(d.e)
		case 2:
			Need(d.n > 0, d.e)
		case 3:
			note(int(Try(func() { run(d.within, note) })))
		case 4:
			i, e := Each(d.n, func(i int) {
				note(i)
				run(d.within, note)
			})
			note(i)
			note(int(e))
		}
	}
}

// tell does a program step by step, without a panic: whether it gave up, and with what.
func tell(l []deed, note func(int)) (bool, api.Errno) {
	for _, d := range l {
		switch d.kind {
		case 0:
			note(d.n)
		case 1:
			return true, d.e
		case 2:
			if d.n <= 0 {
				return true, d.e
			}
		case 3:
			_, e := tell(d.within, note)
			note(int(e))
		case 4:
			i, e := 0, api.OK
			for i < d.n && e == api.OK {
				note(i)
				if _, e = tell(d.within, note); e == api.OK {
					i++
				}
			}
			note(i)
			note(int(e))
		}
	}
	return false, api.OK
}

func TestPrograms(t *testing.T) {
	p := &programs{noise(200000)}
	gaveUp := 0
	for range 500 {
		l := p.list(4)
		var done, want []int
		e := Try(func() { run(l, func(n int) { done = append(done, n) }) })
		up, wantE := tell(l, func(n int) { want = append(want, n) })
		if up {
			gaveUp++
		}
		if e != wantE || !slices.Equal(done, want) {
			t.Fatalf("P3.1 to P3.3: of %v is done %v, %d; not %v, %d", l, done, e, want, wantE)
		}
	}
	if gaveUp < 50 || gaveUp > 450 {
		t.Errorf("of 500 programs %d give up: too few or too many to tell anything", gaveUp)
	}
}
