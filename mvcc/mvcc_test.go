package mvcc_test

import (
	"math"
	"math/big"
	"math/rand/v2"
	"slices"
	"strconv"
	"testing"

	"stoa/api"
	"stoa/mvcc"
)

const greatest = 1099511627776 // the greatest timestamp

// plain is a clock as the chapter tells it: numbers without bounds, and lists of what is in flight and pinned.
type plain struct {
	now, last, mark *big.Int
	flight          []int64 // as they were given out
	pins            []int64 // as they were pinned
}

func newPlain() *plain {
	return &plain{now: big.NewInt(0), last: big.NewInt(-1), mark: big.NewInt(0)}
}

func (p *plain) tick(n int64) {
	if n >= 1 {
		p.now.Add(p.now, big.NewInt(n))
	}
	if most := big.NewInt(greatest + 1); p.now.Cmp(most) > 0 {
		p.now = most
	}
}

func (p *plain) next() int64 {
	next := new(big.Int).Add(p.last, big.NewInt(1))
	if next.Cmp(p.now) < 0 {
		next = p.now
	}
	return next.Int64()
}

func (p *plain) begin() (int64, api.Errno) {
	t := p.next()
	if t > greatest {
		return 0, 170
	}
	p.last = big.NewInt(t)
	p.flight = append(p.flight, t)
	return t, 0
}

// taken is a list without the first t in it.
func taken(list []int64, t int64) ([]int64, api.Errno) {
	i := slices.Index(list, t)
	if i < 0 {
		return list, 172
	}
	return slices.Delete(list, i, i+1), 0
}

func (p *plain) end(t int64) (err api.Errno) {
	p.flight, err = taken(p.flight, t)
	return err
}

func (p *plain) raise(t int64) {
	if t > greatest {
		t = greatest
	}
	if big.NewInt(t).Cmp(p.last) > 0 {
		p.last = big.NewInt(t)
	}
}

func (p *plain) move(t int64) api.Errno {
	if big.NewInt(t).Cmp(p.mark) < 0 {
		return 1
	}
	if t > greatest {
		return 1
	}
	p.mark = big.NewInt(t)
	return 0
}

func (p *plain) pin(t int64) api.Errno {
	if t < 0 || t > greatest {
		return 1
	}
	if big.NewInt(t).Cmp(p.mark) < 0 {
		return 171
	}
	p.pins = append(p.pins, t)
	return 0
}

func (p *plain) unpin(t int64) (err api.Errno) {
	p.pins, err = taken(p.pins, t)
	return err
}

func sorted(list []int64) []int64 {
	list = slices.Clone(list)
	slices.Sort(list)
	return list
}

func (p *plain) clean() int64 {
	if list := sorted(p.flight); len(list) > 0 {
		return list[0] - 1
	}
	return p.next() - 1
}

func (p *plain) floor() int64 {
	if list := sorted(p.pins); len(list) > 0 && list[0] < p.mark.Int64() {
		return list[0]
	}
	return p.mark.Int64()
}

// A call is one that changes a clock, or tries to.
type call struct {
	name string
	t    int64
}

func (c call) String() string {
	return c.name + "(" + strconv.FormatInt(c.t, 10) + ")"
}

// on does the call on a clock.
func (c call) on(k *mvcc.Clock) (int64, api.Errno) {
	switch c.name {
	case "Tick":
		k.Tick(c.t)
	case "Begin":
		return k.Begin()
	case "Commit":
		return 0, k.Commit(c.t)
	case "Abort":
		return 0, k.Abort(c.t)
	case "Raise":
		k.Raise(c.t)
	case "Move":
		return 0, k.Move(c.t)
	case "Pin":
		return 0, k.Pin(c.t)
	case "Unpin":
		return 0, k.Unpin(c.t)
	}
	return 0, 0
}

// onPlain does the call on a plain clock.
func (c call) onPlain(p *plain) (int64, api.Errno) {
	switch c.name {
	case "Tick":
		p.tick(c.t)
	case "Begin":
		return p.begin()
	case "Commit", "Abort":
		return 0, p.end(c.t)
	case "Raise":
		p.raise(c.t)
	case "Move":
		return 0, p.move(c.t)
	case "Pin":
		return 0, p.pin(c.t)
	case "Unpin":
		return 0, p.unpin(c.t)
	}
	return 0, 0
}

// same holds all that a clock tells against the plain one.
func same(t *testing.T, k *mvcc.Clock, p *plain, done []call) {
	t.Helper()
	told := []int64{k.Now(), k.Last(), k.Clean(), k.Mark(), k.Floor()}
	want := []int64{p.now.Int64(), p.last.Int64(), p.clean(), p.mark.Int64(), p.floor()}
	if !slices.Equal(told, want) {
		t.Fatalf("%v: Now, Last, Clean, Mark, Floor are %v, not %v", done, told, want)
	}
	if got, want := k.Flight(), sorted(p.flight); !slices.Equal(got, want) {
		t.Fatalf("%v: Flight is %v, not %v", done, got, want)
	}
	if got, want := k.Pins(), sorted(p.pins); !slices.Equal(got, want) {
		t.Fatalf("%v: Pins is %v, not %v", done, got, want)
	}
}

// play does calls on both clocks, and holds each answer and all that is told behind it against one another.
func play(t *testing.T, k *mvcc.Clock, p *plain, calls ...call) {
	t.Helper()
	for i, c := range calls {
		got, err := c.on(k)
		want, wantErr := c.onPlain(p)
		if got != want || err != wantErr {
			t.Fatalf("%v: the last is %d, %d, not %d, %d", calls[:i+1], got, err, want, wantErr)
		}
		same(t, k, p, calls[:i+1])
	}
}

// equal reports a number that isn't the wanted one.
func equal(t *testing.T, what string, got, want int64) {
	t.Helper()
	if got != want {
		t.Errorf("%s is %d, not %d", what, got, want)
	}
}

// refused reports another error than the wanted one.
func refused(t *testing.T, what string, got, want api.Errno) {
	t.Helper()
	if got != want {
		t.Errorf("%s answers %d, not %d", what, got, want)
	}
}

// begun gives a timestamp out that has to be this one.
func begun(t *testing.T, k *mvcc.Clock, want int64) {
	t.Helper()
	if got, err := k.Begin(); got != want || err != api.OK {
		t.Errorf("Begin is %d, %d, not %d", got, err, want)
	}
}

func TestExamples(t *testing.T) {
	k := mvcc.New()
	k.Tick(5)
	begun(t, k, 5)
	begun(t, k, 6)
	equal(t, "Clean with 5 and 6 in flight", k.Clean(), 4)
	refused(t, "Commit(6)", k.Commit(6), api.OK)
	equal(t, "Clean with 5 in flight", k.Clean(), 4)
	refused(t, "Commit(5)", k.Commit(5), api.OK)
	equal(t, "Clean with none in flight", k.Clean(), 6)
	k.Tick(3)
	equal(t, "Now", k.Now(), 8)
	equal(t, "Clean behind the ticks", k.Clean(), 7)
	refused(t, "Move(4)", k.Move(4), api.OK)
	refused(t, "Pin(4)", k.Pin(4), api.OK)
	refused(t, "Move(6)", k.Move(6), api.OK)
	equal(t, "Mark", k.Mark(), 6)
	equal(t, "Floor", k.Floor(), 4)
	refused(t, "Pin(5)", k.Pin(5), api.ErrOld)
}

func TestNew(t *testing.T) {
	k := mvcc.New()
	equal(t, "Now", k.Now(), 0)
	equal(t, "Last", k.Last(), -1)
	equal(t, "Clean", k.Clean(), -1)
	equal(t, "Mark", k.Mark(), 0)
	equal(t, "Floor", k.Floor(), 0)
	if len(k.Flight()) != 0 || len(k.Pins()) != 0 {
		t.Errorf("in flight %v, pinned %v", k.Flight(), k.Pins())
	}
	begun(t, k, 0)
	equal(t, "Clean with 0 in flight", k.Clean(), -1)
	equal(t, "Now behind Begin", k.Now(), 0)
}

func TestTick(t *testing.T) {
	far := []int64{math.MinInt64, -greatest, -1, 0, 1, 2, greatest - 1, greatest, greatest + 1, greatest + 2, math.MaxInt64 - 1, math.MaxInt64}
	for _, first := range far {
		for _, second := range far {
			for _, third := range far {
				play(t, mvcc.New(), newPlain(), call{"Tick", first}, call{"Tick", second}, call{"Tick", third}, call{"Begin", 0})
			}
		}
	}
	k := mvcc.New()
	k.Tick(math.MaxInt64)
	equal(t, "Now", k.Now(), greatest+1)
	equal(t, "Clean", k.Clean(), greatest)
	equal(t, "Last", k.Last(), -1)
}

// TestNext gives timestamps out with Now below, at and above the one behind the last.
func TestNext(t *testing.T) {
	k := mvcc.New()
	begun(t, k, 0)
	begun(t, k, 1)
	begun(t, k, 2)
	k.Tick(2)
	begun(t, k, 3)
	k.Tick(2)
	begun(t, k, 4)
	k.Tick(2)
	begun(t, k, 6)
	begun(t, k, 7)
	equal(t, "Last", k.Last(), 7)
	equal(t, "Now", k.Now(), 6)
	if got := k.Flight(); !slices.Equal(got, []int64{0, 1, 2, 3, 4, 6, 7}) {
		t.Errorf("in flight %v", got)
	}
}

func TestNoTimestampLeft(t *testing.T) {
	ways := map[string]func(k *mvcc.Clock){
		"by ticks": func(k *mvcc.Clock) { k.Tick(greatest - 1) },
		"by Raise": func(k *mvcc.Clock) { k.Raise(greatest - 2) },
	}
	for name, way := range ways {
		k := mvcc.New()
		way(k)
		begun(t, k, greatest-1)
		begun(t, k, greatest)
		for range 3 {
			if got, err := k.Begin(); got != 0 || err != api.ErrClock {
				t.Errorf("%s: Begin behind the greatest is %d, %d", name, got, err)
			}
		}
		equal(t, "Last", k.Last(), greatest)
		equal(t, "Clean", k.Clean(), greatest-2)
		if got := k.Flight(); !slices.Equal(got, []int64{greatest - 1, greatest}) {
			t.Errorf("%s: in flight %v", name, got)
		}
		refused(t, "Commit", k.Commit(greatest-1), api.OK)
		equal(t, "Clean with the greatest in flight", k.Clean(), greatest-1)
		refused(t, "Abort", k.Abort(greatest), api.OK)
		equal(t, "Clean at the end", k.Clean(), greatest)
	}
	// The greatest is given out where Now is just that, and isn't where Now is one more.
	k := mvcc.New()
	k.Tick(greatest)
	equal(t, "Clean at the greatest", k.Clean(), greatest-1)
	k.Tick(1)
	if got, err := k.Begin(); got != 0 || err != api.ErrClock {
		t.Errorf("Begin above the greatest is %d, %d", got, err)
	}
	equal(t, "Last", k.Last(), -1)
	if len(k.Flight()) != 0 {
		t.Errorf("in flight %v", k.Flight())
	}
}

// strange are times that may be anywhere.
var strange = []int64{math.MinInt64, math.MinInt64 + 1, -greatest, -2, -1, 0, 1, 2, 3, 4, 5, 6, 7, 8, 9, greatest - 1, greatest, greatest + 1, greatest + 2, math.MaxInt64 - 1, math.MaxInt64}

func TestEnd(t *testing.T) {
	ends := map[string]func(k *mvcc.Clock, at int64) api.Errno{
		"Commit": (*mvcc.Clock).Commit,
		"Abort":  (*mvcc.Clock).Abort,
	}
	for name, end := range ends {
		k := mvcc.New()
		k.Tick(3)
		begun(t, k, 3)
		begun(t, k, 4)
		k.Raise(6)
		begun(t, k, 7)
		for _, at := range strange {
			want := api.ErrTime
			if at == 3 || at == 4 || at == 7 {
				want = api.OK
			}
			refused(t, name, end(k, at), want)
			refused(t, name+" again", end(k, at), api.ErrTime)
			// What has been ended by one isn't in flight for the other.
			refused(t, "Commit behind "+name, k.Commit(at), api.ErrTime)
			refused(t, "Abort behind "+name, k.Abort(at), api.ErrTime)
		}
		equal(t, "Last", k.Last(), 7)
		equal(t, "Clean", k.Clean(), 7)
		begun(t, k, 8)
	}
}

// TestEndedInAnyOrder ends eight timestamps in many orders, by Commit and Abort: both settle the same.
func TestEndedInAnyOrder(t *testing.T) {
	random := rand.New(rand.NewPCG(17, 1))
	for range 500 {
		k, p := mvcc.New(), newPlain()
		for range 8 {
			play(t, k, p, call{"Tick", random.Int64N(3)}, call{"Begin", 0})
		}
		for _, at := range k.Flight() {
			if random.IntN(2) == 0 {
				play(t, k, p, call{"Abort", at})
			}
		}
		left := k.Flight()
		random.Shuffle(len(left), func(i, j int) { left[i], left[j] = left[j], left[i] })
		for _, at := range left {
			play(t, k, p, call{"Commit", at}, call{"Commit", at})
		}
	}
}

func TestRaise(t *testing.T) {
	for _, first := range strange {
		for _, second := range strange {
			k, p := mvcc.New(), newPlain()
			play(t, k, p, call{"Tick", 3}, call{"Begin", 0}, call{"Raise", first}, call{"Begin", 0}, call{"Raise", second}, call{"Begin", 0})
		}
	}
	k := mvcc.New()
	k.Raise(-1)
	equal(t, "Last behind Raise(-1)", k.Last(), -1)
	k.Raise(0)
	equal(t, "Last behind Raise(0)", k.Last(), 0)
	refused(t, "Commit of what was raised to", k.Commit(0), api.ErrTime)
	equal(t, "Clean", k.Clean(), 0)
	k.Raise(math.MaxInt64)
	equal(t, "Last behind the greatest Raise", k.Last(), greatest)
	equal(t, "Clean behind the greatest Raise", k.Clean(), greatest)
	equal(t, "Now", k.Now(), 0)
}

func TestMove(t *testing.T) {
	for _, first := range strange {
		for _, second := range strange {
			play(t, mvcc.New(), newPlain(), call{"Move", first}, call{"Move", second}, call{"Pin", first}, call{"Move", second}, call{"Unpin", first})
		}
	}
	k := mvcc.New()
	refused(t, "Move(-1)", k.Move(-1), api.ErrArg)
	refused(t, "Move(0)", k.Move(0), api.OK)
	// The mark may lie above all that has been given out.
	refused(t, "Move(5)", k.Move(5), api.OK)
	refused(t, "Move(4)", k.Move(4), api.ErrArg)
	refused(t, "Move(5) again", k.Move(5), api.OK)
	refused(t, "Move above the greatest", k.Move(greatest+1), api.ErrArg)
	equal(t, "Mark", k.Mark(), 5)
	refused(t, "Move to the greatest", k.Move(greatest), api.OK)
	equal(t, "Mark", k.Mark(), greatest)
	equal(t, "Floor", k.Floor(), greatest)
	equal(t, "Last", k.Last(), -1)
	equal(t, "Clean", k.Clean(), -1)
	begun(t, k, 0)
}

func TestPin(t *testing.T) {
	for _, mark := range []int64{0, 1, 5, greatest} {
		for _, at := range strange {
			for _, other := range strange {
				play(t, mvcc.New(), newPlain(), call{"Move", mark}, call{"Pin", at}, call{"Pin", other}, call{"Move", greatest}, call{"Unpin", at}, call{"Unpin", other}, call{"Unpin", at})
			}
		}
	}
	k := mvcc.New()
	refused(t, "Move(5)", k.Move(5), api.OK)
	refused(t, "Pin(-1)", k.Pin(-1), api.ErrArg)
	refused(t, "Pin above the greatest", k.Pin(greatest+1), api.ErrArg)
	refused(t, "Pin(0)", k.Pin(0), api.ErrOld)
	refused(t, "Pin(4)", k.Pin(4), api.ErrOld)
	refused(t, "Pin(5)", k.Pin(5), api.OK)
	refused(t, "Pin of the greatest", k.Pin(greatest), api.OK)
	if got := k.Pins(); !slices.Equal(got, []int64{5, greatest}) {
		t.Errorf("pinned %v", got)
	}
}

// TestPinnedSeveralTimes: a time is pinned until it has been let go as often as it was pinned, below the mark, too.
func TestPinnedSeveralTimes(t *testing.T) {
	k := mvcc.New()
	for range 3 {
		refused(t, "Pin(4)", k.Pin(4), api.OK)
	}
	refused(t, "Pin(2)", k.Pin(2), api.OK)
	refused(t, "Pin(9)", k.Pin(9), api.OK)
	refused(t, "Move(6)", k.Move(6), api.OK)
	if got := k.Pins(); !slices.Equal(got, []int64{2, 4, 4, 4, 9}) {
		t.Errorf("pinned %v", got)
	}
	equal(t, "Floor with 2 pinned", k.Floor(), 2)
	refused(t, "Unpin(2)", k.Unpin(2), api.OK)
	for range 3 {
		equal(t, "Floor with 4 pinned", k.Floor(), 4)
		refused(t, "Unpin(4)", k.Unpin(4), api.OK)
	}
	equal(t, "Floor with 9 pinned", k.Floor(), 6)
	refused(t, "Unpin(4) once more", k.Unpin(4), api.ErrTime)
	refused(t, "Unpin(6)", k.Unpin(6), api.ErrTime)
	if got := k.Pins(); !slices.Equal(got, []int64{9}) {
		t.Errorf("pinned %v", got)
	}
}

// TestPinsAndFlightAreApart: what is pinned isn't in flight, and the other way round.
func TestPinsAndFlightAreApart(t *testing.T) {
	k := mvcc.New()
	begun(t, k, 0)
	refused(t, "Pin(1)", k.Pin(1), api.OK)
	refused(t, "Commit of what is pinned", k.Commit(1), api.ErrTime)
	refused(t, "Unpin of what is in flight", k.Unpin(0), api.ErrTime)
	refused(t, "Move(3)", k.Move(3), api.OK)
	equal(t, "Clean", k.Clean(), -1)
	equal(t, "Floor", k.Floor(), 1)
}

// menu is what is done in all orders.
var menu = []call{
	{"Begin", 0}, {"Tick", 1}, {"Tick", 3}, {"Tick", greatest - 1}, {"Commit", 0}, {"Commit", 3}, {"Abort", 1}, {"Raise", 1}, {"Raise", greatest - 1},
	{"Move", 1}, {"Move", 3}, {"Pin", 1}, {"Pin", 2}, {"Unpin", 1}, {"Unpin", 2},
}

func TestAllOrders(t *testing.T) {
	var calls []call
	var try func(left int)
	try = func(left int) {
		if left == 0 {
			play(t, mvcc.New(), newPlain(), calls...)
			return
		}
		for _, c := range menu {
			calls = append(calls, c)
			try(left - 1)
			calls = calls[:len(calls)-1]
		}
	}
	try(4)
}

// anyCall is a call near what is so.
func anyCall(random *rand.Rand, p *plain) call {
	near := []int64{p.now.Int64(), p.last.Int64(), p.mark.Int64(), p.clean(), p.floor(), greatest}
	near = append(append(near, p.flight...), p.pins...)
	at := near[random.IntN(len(near))] + random.Int64N(5) - 2
	if random.IntN(50) == 0 {
		at = strange[random.IntN(len(strange))]
	}
	names := []string{"Tick", "Begin", "Begin", "Commit", "Commit", "Abort", "Raise", "Move", "Pin", "Pin", "Unpin", "Unpin"}
	name := names[random.IntN(len(names))]
	switch {
	case name == "Tick":
		at = random.Int64N(6) - 1
	case (name == "Move" || name == "Raise") && random.IntN(10) > 0:
		at = min(at, p.last.Int64()+3)
	}
	return call{name, at}
}

// TestAnyOrder holds long rows of calls against the plain clock, and looks at each promise of its own behind each call.
func TestAnyOrder(t *testing.T) {
	random := rand.New(rand.NewPCG(17, 2))
	for round := range 200 {
		k, p := mvcc.New(), newPlain()
		if round%4 == 0 {
			play(t, k, p, call{"Raise", greatest - 30})
		}
		var done []call
		given, settled := k.Last(), k.Clean()
		for range 300 {
			c := anyCall(random, p)
			done = append(done, c)
			now, floor, clean := k.Now(), k.Floor(), k.Clean()
			got, err := c.on(k)
			want, wantErr := c.onPlain(p)
			if got != want || err != wantErr {
				t.Fatalf("%v: the last is %d, %d, not %d, %d", done, got, err, want, wantErr)
			}
			same(t, k, p, done)
			if c.name == "Begin" && err == api.OK {
				if got <= given || got < now || got <= settled {
					t.Fatalf("%v: %d is given out behind %d, at %d, with %d settled", done, got, given, now, settled)
				}
				given = got
			}
			if c.name != "Raise" && k.Clean() < clean {
				t.Fatalf("%v: Clean falls from %d to %d", done, clean, k.Clean())
			}
			settled = max(settled, k.Clean())
			if pins := k.Pins(); len(pins) > 0 && pins[0] < k.Floor() {
				t.Fatalf("%v: the Floor %d is above the pinned %d", done, k.Floor(), pins[0])
			}
			if k.Floor() > k.Mark() || k.Floor() < floor {
				t.Fatalf("%v: the Floor goes from %d to %d, the mark is %d", done, floor, k.Floor(), k.Mark())
			}
		}
	}
}

// TestMany has many in flight and many pinned, so that the order in which a map is gone through would be seen.
func TestMany(t *testing.T) {
	k, p := mvcc.New(), newPlain()
	for i := range int64(300) {
		for _, c := range []call{{"Begin", 0}, {"Pin", i * 7919 % 300}, {"Pin", i * 7919 % 300}} {
			c.on(k)
			c.onPlain(p)
		}
	}
	same(t, k, p, nil)
	for i := range int64(300) {
		for _, c := range []call{{"Commit", i * 7907 % 300}, {"Unpin", i * 7907 % 300}} {
			c.on(k)
			c.onPlain(p)
		}
		same(t, k, p, nil)
	}
}

// spoil writes over a list, its spare room too.
func spoil(list []int64) {
	list = list[:cap(list)]
	for i := range list {
		list[i] = -77
	}
}

func TestAnswersAreNew(t *testing.T) {
	k, p := mvcc.New(), newPlain()
	play(t, k, p, call{"Begin", 0}, call{"Begin", 0}, call{"Begin", 0}, call{"Pin", 2}, call{"Pin", 2}, call{"Pin", 5})
	flight, pins := k.Flight(), k.Pins()
	again, pinsAgain := k.Flight(), k.Pins()
	spoil(flight)
	spoil(pins)
	if !slices.Equal(again, []int64{0, 1, 2}) || !slices.Equal(pinsAgain, []int64{2, 2, 5}) {
		t.Errorf("another answer is written over: %v, %v", again, pinsAgain)
	}
	same(t, k, p, nil)
	spoil(again)
	spoil(pinsAgain)
	play(t, k, p, call{"Commit", 0}, call{"Unpin", 2}, call{"Begin", 0}, call{"Pin", 1})
}

func TestClocksShareNothing(t *testing.T) {
	random := rand.New(rand.NewPCG(17, 3))
	for range 50 {
		a, b := mvcc.New(), mvcc.New()
		p, q := newPlain(), newPlain()
		for range 100 {
			play(t, a, p, anyCall(random, p))
			same(t, b, q, nil)
			play(t, b, q, anyCall(random, q))
			same(t, a, p, nil)
		}
	}
}

// TestAskedAgain: to ask changes nothing.
func TestAskedAgain(t *testing.T) {
	random := rand.New(rand.NewPCG(17, 4))
	k, p := mvcc.New(), newPlain()
	for range 200 {
		play(t, k, p, anyCall(random, p))
		for range 3 {
			same(t, k, p, nil)
		}
	}
}
