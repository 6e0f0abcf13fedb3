package code

import (
	"math"
	"slices"
	"testing"

	"rastrum/api"
)

// bounds are the least and the greatest one that a number may be.
type bounds [2]int

// table is the chapter's: of each Op, from 1 on, the bounds of its numbers.
func table() map[int][]bounds {
	bit, away, free := bounds{0, 1}, bounds{-8192, 8192}, bounds{math.MinInt, math.MaxInt}
	coef, part, coord := bounds{-32768, 32768}, bounds{0, 255}, bounds{-1048576, 1048576}
	entry := bounds{-268435456, 268435456}
	return map[int][]bounds{
		1:  {{1, 1024}, {1, 1024}},
		2:  {part, part, part, part},
		3:  {{0, 16777215}},
		4:  {{0, 3}},
		5:  {away, away, {0, 4096}, {0, 4096}},
		6:  {bit, away, away, {0, 8192}, {0, 8192}},
		7:  {bit},
		8:  slices.Repeat([]bounds{entry}, 16),
		9:  slices.Repeat([]bounds{entry}, 16),
		10: {},
		11: {},
		12: {},
		13: {{0, 5}, bit, coef, coef, coef, coef},
		14: {part, part, part, part},
		15: {bit},
		16: {{0, 9}},
		17: {coord, coord, coord, coord},
		18: {},
		19: {{1, 64}},
		20: {bit, {1, 256}, {0, 65535}},
		21: {{1, 64}, {0, 2}},
		22: {bit},
		23: {{0, 2}, {0, 2}},
		24: {bit, {0, 3}},
		25: {bit, {-65536, 65536}, {-16777216, 16777216}},
		26: {bit, {0, 7}, bit},
		27: {bit, {0, 7}, {0, 7}},
		28: {bit, bit, bit, bit},
		29: {bit, bit},
		30: {free, free, free, free},
		31: slices.Repeat([]bounds{free}, 16),
		32: {free},
	}
}

const lastOp = 32

// noOps are Ops of no command.
func noOps() []int {
	return []int{0, 33, -1, -2, -15, -18, -32, 34, 64, 255, 256 + 18, 1<<16 + 18, 1<<32 + 18, 1<<62 + 18,
		math.MinInt, math.MinInt + 1, math.MinInt + 18, math.MaxInt, math.MaxInt - 1}
}

// least and most are a command's numbers, each at the one end, or at the other one.
func least(op int) []int { return ends(op, 0) }
func most(op int) []int  { return ends(op, 1) }

func ends(op, which int) []int {
	var a []int
	for _, b := range table()[op] {
		a = append(a, b[which])
	}
	return a
}

// rising is a command with the numbers from, from + 1 and so on.
func rising(op, from int) api.Rec {
	r := api.Rec{Op: op}
	for i := range table()[op] {
		r.A = append(r.A, from+i)
	}
	return r
}

// stream is what a list of commands is put into, by the chapter's words.
func stream(l ...api.Rec) []int {
	var a []int
	for _, r := range l {
		a = append(append(a, r.Op), r.A...)
	}
	return a
}

func sameRecs(a, b []api.Rec) bool {
	return slices.EqualFunc(a, b, func(r, s api.Rec) bool { return r.Op == s.Op && slices.Equal(r.A, s.A) })
}

func copyOf(l []api.Rec) []api.Rec {
	var m []api.Rec
	for _, r := range l {
		m = append(m, api.Rec{Op: r.Op, A: slices.Clone(r.A)})
	}
	return m
}

func checkRight(t *testing.T, op int, a []int, want api.Errno) {
	t.Helper()
	if e := Right(api.Rec{Op: op, A: a}); e != want {
		t.Errorf("P4.2: Right of %d %v: %d, not %d", op, a, e, want)
	}
}

func checkPut(t *testing.T, l []api.Rec, want []int, wantErr api.Errno) {
	t.Helper()
	a, e := Put(l)
	if e != wantErr || !slices.Equal(a, want) {
		t.Errorf("P4.3: Put of %d commands %v: %v, %d; not %v, %d", len(l), head(l), head(a), e, head(want), wantErr)
	}
}

func checkGet(t *testing.T, a []int, want []api.Rec, wantAt int, wantErr api.Errno) {
	t.Helper()
	l, at, e := Get(a)
	if e != wantErr || at != wantAt || !sameRecs(l, want) {
		t.Errorf("P4.3: Get of %d numbers %v: %v, %d, %d; not %v, %d, %d", len(a), head(a), head(l), at, e, head(want), wantAt, wantErr)
	}
}

// head is as much of a list as a message can show.
func head[T any](l []T) []T { return l[:min(len(l), 40)] }

func TestArity(t *testing.T) {
	for op := 1; op <= lastOp; op++ {
		if n, ok := Arity(op); n != len(table()[op]) || !ok {
			t.Errorf("P4.1: Arity(%d): %d, %v", op, n, ok)
		}
	}
	for _, op := range noOps() {
		if n, ok := Arity(op); n != 0 || ok {
			t.Errorf("P4.1: Arity(%d): %d, %v", op, n, ok)
		}
	}
}

func TestRange(t *testing.T) {
	for op := 1; op <= lastOp; op++ {
		for i, b := range table()[op] {
			if lo, hi, ok := Range(op, i); lo != b[0] || hi != b[1] || !ok {
				t.Errorf("P4.1: Range(%d, %d): %d, %d, %v", op, i, lo, hi, ok)
			}
		}
	}
}

func TestRangeOfNoNumber(t *testing.T) {
	check := func(op, i int) {
		t.Helper()
		if lo, hi, ok := Range(op, i); lo != 0 || hi != 0 || ok {
			t.Errorf("P4.1: Range(%d, %d): %d, %d, %v", op, i, lo, hi, ok)
		}
	}
	for op := 1; op <= lastOp; op++ {
		n := len(table()[op])
		for _, i := range []int{n, n + 1, n + 16, -1, -2, 256, 1 << 32, math.MinInt, math.MaxInt} {
			check(op, i)
		}
	}
	for _, op := range noOps() {
		for _, i := range []int{0, 1, 15, -1, math.MinInt, math.MaxInt} {
			check(op, i)
		}
	}
}

func TestRight(t *testing.T) {
	for op := 1; op <= lastOp; op++ {
		low, high := least(op), most(op)
		checkRight(t, op, low, api.OK)
		checkRight(t, op, high, api.OK)
		for i, b := range table()[op] {
			mixed := slices.Clone(low)
			mixed[i] = b[1]
			checkRight(t, op, mixed, api.OK)
			mixed[i] = b[0]/2 + b[1]/2
			checkRight(t, op, mixed, api.OK)
		}
	}
	for _, op := range []int{10, 11, 12, 18} {
		checkRight(t, op, nil, api.OK)
		checkRight(t, op, []int{}, api.OK)
	}
}

func TestRightOutOfRange(t *testing.T) {
	for op := 1; op <= lastOp; op++ {
		for i, b := range table()[op] {
			if b[0] == math.MinInt {
				continue
			}
			for _, n := range []int{b[0] - 1, b[1] + 1, math.MinInt, math.MaxInt, 1<<32 + b[0], -1<<32 + b[0]} {
				for _, others := range [][]int{least(op), most(op)} {
					others[i] = n
					checkRight(t, op, others, api.ErrRange)
				}
			}
		}
	}
}

// TestRightOfOtherLengths holds that too few and too many numbers tell ahead of one out of its range.
func TestRightOfOtherLengths(t *testing.T) {
	for op := 1; op <= lastOp; op++ {
		for n := range 36 {
			if n == len(table()[op]) {
				continue
			}
			checkRight(t, op, append(least(op), make([]int, n)...)[:n], api.ErrArg)
			checkRight(t, op, slices.Repeat([]int{math.MinInt}, n), api.ErrArg)
			checkRight(t, op, slices.Repeat([]int{math.MaxInt}, n), api.ErrArg)
		}
		checkRight(t, op, make([]int, 256+len(table()[op])), api.ErrArg)
	}
}

// TestRightOfNoCommand holds that it tells ahead of all that is wrong with the numbers.
func TestRightOfNoCommand(t *testing.T) {
	for _, op := range noOps() {
		for n := range 18 {
			checkRight(t, op, make([]int, n), api.ErrOp)
			checkRight(t, op, slices.Repeat([]int{math.MinInt}, n), api.ErrOp)
		}
		checkRight(t, op, nil, api.ErrOp)
	}
}

func TestPutAndGetOfEachCommand(t *testing.T) {
	for op := 1; op <= lastOp; op++ {
		for _, a := range [][]int{least(op), most(op), rising(op, 100).A, rising(op, -20).A} {
			r := api.Rec{Op: op, A: a}
			checkPut(t, []api.Rec{r}, stream(r), api.OK)
			checkGet(t, stream(r), []api.Rec{r}, 0, api.OK)
		}
	}
}

func TestPutAndGetOfSeveralCommands(t *testing.T) {
	var all []api.Rec
	for op := 1; op <= lastOp; op++ {
		all = append(all, rising(op, 1000*op))
		for other := 1; other <= lastOp; other++ {
			l := []api.Rec{rising(op, -7), rising(other, 70), rising(op, 700)}
			checkPut(t, l, stream(l...), api.OK)
			checkGet(t, stream(l...), l, 0, api.OK)
		}
	}
	checkPut(t, all, stream(all...), api.OK)
	checkGet(t, stream(all...), all, 0, api.OK)
}

func TestPutAndGetOfNothing(t *testing.T) {
	for _, l := range [][]api.Rec{nil, {}} {
		checkPut(t, l, nil, api.OK)
	}
	for _, a := range [][]int{nil, {}} {
		checkGet(t, a, nil, 0, api.OK)
	}
}

func TestExamples(t *testing.T) {
	checkGet(t, []int{15, 1, 18}, []api.Rec{{Op: 15, A: []int{1}}, {Op: 18}}, 0, api.OK)
	checkGet(t, []int{18, 15}, nil, 1, api.ErrArg)
}

// TestPutBearsAnyNumbers holds that a number out of its range is put, and doesn't hide a later command's error.
func TestPutBearsAnyNumbers(t *testing.T) {
	for op := 1; op <= lastOp; op++ {
		for _, n := range []int{0, -1, math.MinInt, math.MaxInt} {
			r := api.Rec{Op: op, A: slices.Repeat([]int{n}, len(table()[op]))}
			checkPut(t, []api.Rec{r}, stream(r), api.OK)
			checkPut(t, []api.Rec{r, {Op: 33}}, nil, api.ErrOp)
			checkPut(t, []api.Rec{r, {Op: 15}}, nil, api.ErrArg)
		}
	}
}

func TestPutRefuses(t *testing.T) {
	flag, end, none := rising(15, 1), api.Rec{Op: 18}, api.Rec{Op: 0, A: []int{1}}
	few, many := api.Rec{Op: 5, A: []int{1, 2, 3}}, api.Rec{Op: 18, A: []int{1}}
	cases := []struct {
		l []api.Rec
		e api.Errno
	}{
		{[]api.Rec{none}, api.ErrOp}, {[]api.Rec{few}, api.ErrArg}, {[]api.Rec{many}, api.ErrArg},
		{[]api.Rec{flag, end, none}, api.ErrOp}, {[]api.Rec{flag, few, end}, api.ErrArg},
		{[]api.Rec{few, none}, api.ErrArg}, {[]api.Rec{none, few}, api.ErrOp},
		{[]api.Rec{end, many, flag, none}, api.ErrArg}, {[]api.Rec{end, none, flag, many}, api.ErrOp},
	}
	for _, c := range cases {
		checkPut(t, c.l, nil, c.e)
	}
	for _, op := range noOps() {
		checkPut(t, []api.Rec{flag, {Op: op}}, nil, api.ErrOp)
	}
	for op := 1; op <= lastOp; op++ {
		for n := range 20 {
			if n != len(table()[op]) {
				checkPut(t, []api.Rec{end, {Op: op, A: make([]int, n)}}, nil, api.ErrArg)
			}
		}
	}
}

func TestPutOfManyCommands(t *testing.T) {
	for op := 1; op <= lastOp; op++ {
		l := slices.Repeat([]api.Rec{rising(op, op)}, 4096)
		checkPut(t, l, stream(l...), api.OK)
		checkPut(t, append(l, api.Rec{Op: 18}), nil, api.ErrLong)
		l[4095] = api.Rec{Op: 33}
		checkPut(t, l, nil, api.ErrOp)
	}
	for _, n := range []int{4097, 4098, 5000, 8192, 65536} {
		checkPut(t, slices.Repeat([]api.Rec{{Op: 18}}, n), nil, api.ErrLong)
		// Their number tells ahead of what any of them is.
		checkPut(t, make([]api.Rec, n), nil, api.ErrLong)
		checkPut(t, slices.Repeat([]api.Rec{{Op: 15}}, n), nil, api.ErrLong)
	}
}

func TestGetOfManyCommands(t *testing.T) {
	for op := 1; op <= lastOp; op++ {
		l := slices.Repeat([]api.Rec{rising(op, op)}, 4096)
		a := stream(l...)
		checkGet(t, a, l, 0, api.OK)
		// Whatever stands behind them: a command, none, one whose numbers aren't there.
		for _, more := range [][]int{{18}, {0}, {33, 18}, {15}, {15, 1}, {8, 0, 0}, {math.MinInt}, a} {
			checkGet(t, slices.Concat(a, more), nil, len(a), api.ErrLong)
		}
		at := len(a) - len(a)/4096
		a[at] = 33
		checkGet(t, append(a, 18, 18), nil, at, api.ErrOp)
	}
	ends := slices.Repeat([]int{18}, 4095)
	checkGet(t, append(ends, 15), nil, 4095, api.ErrArg)
	checkGet(t, append(ends, 0), nil, 4095, api.ErrOp)
	checkGet(t, slices.Repeat([]int{18}, 1<<20), nil, 4096, api.ErrLong)
}

func TestGetOfNoCommand(t *testing.T) {
	for _, op := range noOps() {
		checkGet(t, []int{op}, nil, 0, api.ErrOp)
		checkGet(t, []int{op, 1, 1, 1}, nil, 0, api.ErrOp)
		checkGet(t, []int{15, op, 18, op}, nil, 3, api.ErrOp)
		checkGet(t, []int{15, op, op, 15}, nil, 2, api.ErrOp)
		checkGet(t, append(stream(rising(8, 500)), op), nil, 17, api.ErrOp)
	}
}

// TestGetOfTooFewNumbers cuts each command short, behind none and behind others.
func TestGetOfTooFewNumbers(t *testing.T) {
	for op := 1; op <= lastOp; op++ {
		for _, l := range [][]api.Rec{nil, {rising(18, 0)}, {rising(5, 33), rising(31, 0)}} {
			ahead := stream(l...)
			whole := append(slices.Clone(ahead), stream(rising(op, 50))...)
			for n := len(ahead) + 1; n < len(whole); n++ {
				checkGet(t, whole[:n], nil, len(ahead), api.ErrArg)
				// The room behind what is handed in isn't the stream.
				checkGet(t, whole[:n:n], nil, len(ahead), api.ErrArg)
			}
			checkGet(t, whole, append(l, rising(op, 50)), 0, api.OK)
		}
	}
}

// slowGet looks for what the stream is put from, command by command from the front, by the chapter's table.
func slowGet(a []int, ahead int) ([]api.Rec, int, api.Errno) {
	if len(a) == 0 {
		return nil, 0, api.OK
	}
	row, known := table()[a[0]]
	if ahead == 4096 {
		return nil, 0, api.ErrLong
	} else if !known {
		return nil, 0, api.ErrOp
	} else if len(a)-1 < len(row) {
		return nil, 0, api.ErrArg
	}
	end := 1 + len(row)
	l, at, e := slowGet(a[end:], ahead+1)
	if e != api.OK {
		return nil, end + at, e
	}
	return slices.Concat([]api.Rec{{Op: a[0], A: a[1:end]}}, l), 0, api.OK
}

// eachStream does f with all streams of length n or less of the numbers told.
func eachStream(numbers []int, n int, ahead []int, f func([]int)) {
	f(ahead)
	if n == 0 {
		return
	}
	for _, x := range numbers {
		eachStream(numbers, n-1, append(slices.Clone(ahead), x), f)
	}
}

func TestGetOfAllShortStreams(t *testing.T) {
	eachStream([]int{0, 18, 15, 29, 20, 33}, 6, nil, func(a []int) {
		l, at, e := slowGet(a, 0)
		checkGet(t, a, l, at, e)
		if e != api.OK {
			return
		}
		if b, _ := Put(l); !slices.Equal(b, a) {
			t.Errorf("P4.4: there and back %v is %v", a, b)
		}
	})
}

func TestThereAndBack(t *testing.T) {
	for op := 1; op <= lastOp; op++ {
		for other := 1; other <= lastOp; other++ {
			l := []api.Rec{rising(op, 1<<40), rising(other, -1<<40), rising(op, math.MaxInt-16)}
			a, e := Put(l)
			if back, at, f := Get(a); e != api.OK || f != api.OK || at != 0 || !sameRecs(back, l) {
				t.Errorf("P4.4: there and back %v is %v, %d, %d, by %d", l, back, at, f, e)
			}
		}
	}
}

// TestBehindAStream holds that what stands behind changes nothing ahead: neither the commands, nor the first error's place.
func TestBehindAStream(t *testing.T) {
	var streams [][]int
	eachStream([]int{0, 18, 15, 29}, 3, nil, func(a []int) { streams = append(streams, a) })
	streams = append(streams, stream(rising(8, 10), rising(13, 33)), stream(rising(31, 0), rising(6, 1)))
	for _, a := range streams {
		l, at, e := Get(a)
		for _, b := range streams {
			m, behind, f := Get(b)
			ab := slices.Concat(a, b)
			switch {
			case e == api.OK && f == api.OK:
				checkGet(t, ab, slices.Concat(l, m), 0, api.OK)
			case e == api.OK:
				checkGet(t, ab, nil, len(a)+behind, f)
			case e == api.ErrOp:
				checkGet(t, ab, nil, at, e)
			}
		}
	}
}

// TestArgumentsStay holds that nothing that is handed in is changed, its spare room neither, nor kept.
func TestArgumentsStay(t *testing.T) {
	room := stream(rising(8, 5), rising(15, 1), rising(2, 9), rising(18, 0), rising(7, 7), rising(3, 3))
	was, n := slices.Clone(room), len(room)-4
	l, _, e := Get(room[:n])
	if e != api.OK || !slices.Equal(room, was) {
		t.Fatalf("Get of %v: %d; it leaves %v", was, e, room)
	}
	want := copyOf(l)
	clear(room)
	if !sameRecs(l, want) {
		t.Error("Get's commands are changed with its argument")
	}
	l = append(l, api.Rec{Op: 10, A: []int{}})
	want = copyOf(l)
	a, e := Put(l[:len(l)-1])
	if e != api.OK || !sameRecs(l, want) {
		t.Fatalf("Put of %v: %d; it leaves %v", want, e, l)
	}
	stood := slices.Clone(a)
	_ = append(a, 99, 99, 99, 99)
	clear(a)
	if !sameRecs(l, want) {
		t.Error("Put's commands are changed with its answer")
	}
	again, _ := Put(l[:len(l)-1])
	if !slices.Equal(again, stood) {
		t.Errorf("Put of the same again: %v, not %v", again, stood)
	}
}

// TestRoomOfNumbersStays holds that the room behind a command's numbers is left alone, and isn't put.
func TestRoomOfNumbersStays(t *testing.T) {
	rooms := [][]int{{77}, {1, 77, 77}, {3, 2, 77, 77, 77, 77}, {0, 5, 6, 77}}
	l := []api.Rec{{Op: 18, A: rooms[0][:0]}, {Op: 15, A: rooms[1][:1]}, {Op: 21, A: rooms[2][:2]}, {Op: 20, A: rooms[3][:3]}}
	was := slices.Concat(rooms...)
	checkPut(t, l, []int{18, 15, 1, 21, 3, 2, 20, 0, 5, 6}, api.OK)
	for i := range l {
		checkPut(t, l[i:], stream(l[i:]...), api.OK)
		a, _ := Put(l[i : i+1])
		clear(a)
		checkRight(t, l[i].Op, l[i].A, api.OK)
	}
	if !slices.Equal(slices.Concat(rooms...), was) {
		t.Errorf("what is handed in, %v, is changed to %v", was, slices.Concat(rooms...))
	}
}

// TestNumbersHaveNoSpareRoom holds that no command that Get answers shares anything with another one.
func TestNumbersHaveNoSpareRoom(t *testing.T) {
	var l []api.Rec
	for op := 1; op <= lastOp; op++ {
		l = append(l, rising(op, 100*op), rising(lastOp+1-op, -100*op))
	}
	a := stream(l...)
	for i := range l {
		got, _, _ := Get(a)
		if n := len(got[i].A); cap(got[i].A) != n {
			t.Errorf("P4.3: room for %d numbers stands behind the %d of command %d", cap(got[i].A)-n, n, got[i].Op)
		}
		_ = append(got[i].A, 99, 99)
		if !sameRecs(got, l) {
			t.Errorf("P4.3: who appends to the numbers of command %d changes others", got[i].Op)
		}
		clear(got[i].A)
		got[i] = l[i]
		if !sameRecs(got, l) {
			t.Errorf("P4.3: who changes the numbers of command %d changes others", l[i].Op)
		}
	}
}

// TestCallsHangOnArgumentsAlone holds that what a caller does to an answer changes no later one.
func TestCallsHangOnArgumentsAlone(t *testing.T) {
	l := []api.Rec{rising(2, 3), rising(13, 4)}
	a, _ := Put(l)
	stood := slices.Clone(a)
	got, _, _ := Get(a)
	clear(got[0].A)
	clear(got)
	checkGet(t, stood, l, 0, api.OK)
	clear(a)
	checkPut(t, l, stood, api.OK)
}
