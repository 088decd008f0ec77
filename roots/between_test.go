package roots_test

import (
	"slices"
	"testing"

	"rundale/api"
	"rundale/cells"
	"rundale/roots"
	"rundale/word"
)

// region is one by its slot and generation.
type region struct{ slot, gen int }

// kind is which machine a worker makes.
type kind int

const (
	create kind = iota
	look
	end // and, if that is Fine, a Back
	grow
)

// task is what a worker does next: known -1: of that region; else of the one of all that were created so far that it tells, counted round.
type task struct {
	kind  kind
	of    region
	known int
}

// The tasks of short runs.
var (
	create1 = task{kind: create}
	last    = task{kind: end, known: 0} // the region that was created last
	end1    = task{kind: end, of: region{0, 1}, known: -1}
	end2    = task{kind: end, of: region{0, 2}, known: -1}
	look1   = task{kind: look, of: region{0, 1}, known: -1}
	grow1   = task{kind: grow, of: region{0, 1}, known: -1}
)

// grower stands for an Alloc: it gives a live region's root another Mark and Off, by an exchange.
type grower struct {
	m       *cells.Cells
	at, gen int
	loaded  uint64
	next    func()
}

func (g *grower) Step() bool {
	if g.next == nil {
		return false
	}
	g.next()
	return true
}

func (g *grower) Done() bool { return g.next == nil }

func (g *grower) load() {
	g.loaded, _ = g.m.Load(g.at)
	if r := word.GetRoot(g.loaded); r.Mark == word.Gone || r.Gen != g.gen {
		g.next = nil
	} else {
		g.next = g.turn
	}
}

func (g *grower) turn() {
	r := word.GetRoot(g.loaded)
	if r.Mark, r.Off = r.Mark+1, r.Off+2; r.Mark > 5 {
		r.Mark = word.First
	}
	if ok, _ := g.m.Cas(g.at, g.loaded, root(r.Gen, r.Mark, r.Class, r.Off)); ok {
		g.next = nil
	} else {
		g.next = g.load
	}
}

// hand is a worker: its tasks that are left, the machine it is at, how many accesses that has made, and the slot in its hands (-1: none).
type hand struct {
	tasks       []task
	at          machine
	of          region
	steps, slot int
}

// sight is what is to be seen of the slots at a moment.
type sight struct {
	spare []int
	roots []word.Root
}

// table is some workers at the slots of one memory.
type table struct {
	t     *testing.T
	m     *cells.Cells
	r     *roots.Roots
	c     api.Config
	hands []*hand
	made  []region       // in the order in which they were created
	fine  map[region]int // how many Ends of it were Fine
	had   map[string]int // what came of the machines, lest a run have too little in it
	picks []int
}

// seated is workers with these tasks at so many slots, of which the first ones have a region each.
func seated(t *testing.T, n, live int, tasks [][]task) *table {
	t.Helper()
	c := slots(n)
	m, r := filled(t, c)
	x := &table{t: t, m: m, r: r, c: c, fine: map[region]int{}, had: map[string]int{}}
	for range live {
		y := r.Create(1)
		for y.Step() {
		}
		slot, gen := y.Region()
		x.made = append(x.made, region{slot, gen})
	}
	for _, l := range tasks {
		x.hands = append(x.hands, &hand{tasks: l, slot: -1})
	}
	for w := range x.hands {
		x.begin(w)
	}
	return x
}

// begin has a worker at the next of its tasks; it leaves out those of a region that was created, when none was.
func (x *table) begin(w int) {
	h := x.hands[w]
	h.at, h.steps = nil, 0
	for len(h.tasks) > 0 && h.at == nil {
		k := h.tasks[0]
		h.tasks = h.tasks[1:]
		h.of = k.of
		if k.known >= 0 && k.kind != create {
			if len(x.made) == 0 {
				continue
			}
			h.of = x.made[len(x.made)-1-k.known%len(x.made)]
		}
		x.start(h, k.kind)
	}
}

// start has a worker at such a machine.
func (x *table) start(h *hand, k kind) {
	x.t.Helper()
	code := api.Fine
	switch k {
	case create:
		h.at = x.r.Create(len(x.made) % 4)
	case look:
		h.at, code = x.r.Look(h.of.slot, h.of.gen)
	case end:
		h.at, code = x.r.End(h.of.slot, h.of.gen)
	case grow:
		g := &grower{m: x.m, at: rootAt(x.c, h.of.slot), gen: h.of.gen}
		g.next = g.load
		h.at = g
	}
	if code != api.Fine {
		x.t.Fatalf("no machine %d of %+v: %d", k, h.of, code)
	}
}

// busy is the workers that can go on.
func (x *table) busy() []int {
	var l []int
	for w, h := range x.hands {
		if h.at != nil {
			l = append(l, w)
		}
	}
	return l
}

// seen is what is to be seen of the slots now.
func (x *table) seen() sight {
	s := sight{spare: x.r.Spare()}
	for slot := range x.c.Slots {
		s.roots = append(s.roots, x.r.Root(slot))
	}
	return s
}

// pick has a worker do one access, and begin its next task if that was the end of one.
func (x *table) pick(w int) {
	x.t.Helper()
	x.picks = append(x.picks, w)
	h, count, ahead := x.hands[w], x.m.Count(), x.seen()
	h.steps++
	if !h.at.Step() || x.m.Count() != count+1 {
		x.t.Fatalf("%v: a step did %d accesses", x.picks, x.m.Count()-count)
	}
	if !h.at.Done() {
		wantGoingOn(x.t, h.at)
	}
	switch at := h.at.(type) {
	case *roots.Create:
		x.judgeCreate(h, at, ahead)
	case *roots.Look:
		x.judgeLook(h, at, ahead)
	case *roots.End:
		x.judgeEnd(h, at, ahead)
	default:
		if h.at.Done() {
			h.slot = -1
		}
	}
	x.wantOnce()
	if !h.at.Done() {
		return
	}
	if e, ok := h.at.(*roots.End); ok && e.Code() == api.Fine {
		h.at, _ = x.r.Back(h.of.slot)
		return
	}
	x.begin(w)
}

// judgeCreate: at its Point the topmost spare slot was taken, or there was none; when it is done there is a region that there never was.
func (x *table) judgeCreate(h *hand, at *roots.Create, ahead sight) {
	x.t.Helper()
	if at.Point() == h.steps {
		if at.Done() != (len(ahead.spare) == 0) {
			x.t.Fatalf("%v: of the spare slots %v a Create's Code is %d, Done %t", x.picks, ahead.spare, at.Code(), at.Done())
		}
		if at.Done() {
			x.had["NoSlot"]++
			wantCame(x.t, at, none(h.steps))
			return
		}
		h.slot = ahead.spare[0]
		if h.steps > 3 {
			x.had["taken again"]++
		}
		if !slices.Equal(x.r.Spare(), ahead.spare[1:]) {
			x.t.Fatalf("%v: the spare slots turned from %v to %v", x.picks, ahead.spare, x.r.Spare())
		}
	}
	if !at.Done() {
		return
	}
	slot, gen := at.Region()
	is := region{slot, gen}
	if slot != h.slot || x.r.Root(slot).Gen != gen || x.r.Root(slot).Mark != word.Bare || slices.Contains(x.made, is) {
		x.t.Fatalf("%v: the slot %d was taken, Region is %v; its root is %+v, there were %v", x.picks, h.slot, is, x.r.Root(slot), x.made)
	}
	x.made = append(x.made, is)
	h.slot = -1
}

// judgeLook: by what the root held at its step.
func (x *table) judgeLook(h *hand, at *roots.Look, ahead sight) {
	x.t.Helper()
	was := ahead.roots[h.of.slot]
	if was.Mark != word.Gone && was.Gen == h.of.gen {
		wantCame(x.t, at, seen(was.Off))
	} else {
		wantCame(x.t, at, stale(0))
	}
}

// judgeEnd: at its Point the region was live, and is no more; or it was not.
func (x *table) judgeEnd(h *hand, at *roots.End, ahead sight) {
	x.t.Helper()
	was := ahead.roots[h.of.slot]
	live := was.Mark != word.Gone && was.Gen == h.of.gen
	if !at.Done() {
		return
	}
	if live != (at.Code() == api.Fine) {
		x.t.Fatalf("%v: the root %+v, an End of %+v: %d", x.picks, was, h.of, at.Code())
	}
	if h.steps > 2 {
		x.had["ended again"]++
	}
	if !live {
		x.had["Stale"]++
		wantCame(x.t, at, stale(h.steps))
		return
	}
	wantCame(x.t, at, ended(max(was.Mark-word.First, -1), h.steps))
	wantRoot(x.t, x.r, h.of.slot, word.Root{Gen: h.of.gen})
	h.slot = h.of.slot
	x.fine[h.of]++
	if x.fine[h.of] > 1 {
		x.t.Fatalf("%v: %d Ends of %+v were Fine", x.picks, x.fine[h.of], h.of)
	}
}

// wantOnce: each slot is spare, live, or in one worker's hands, and just once. (Behind a Create's Store its slot is its region's, behind a Push's exchange it is spare.)
func (x *table) wantOnce() {
	x.t.Helper()
	s := x.seen()
	all := slices.Clone(s.spare)
	for slot, r := range s.roots {
		if r.Mark != word.Gone {
			all = append(all, slot)
		}
	}
	for _, h := range x.hands {
		if h.slot >= 0 {
			all = append(all, h.slot)
		}
	}
	slices.Sort(all)
	if !slices.Equal(all, upTo(x.c.Slots)) {
		x.t.Fatalf("%v: there are the slots %v; %+v", x.picks, all, s)
	}
}

// eachOrder goes through every order in which the workers can go on: how many there are, and what came of the machines in them. Each run begins with the picks of the one ahead of it, up to the last place where another worker could go on.
func eachOrder(t *testing.T, n, live int, tasks [][]task, behind func(x *table)) (orders int, had map[string]int) {
	t.Helper()
	had = map[string]int{}
	var picks []int
	for more := true; more; orders++ {
		x := seated(t, n, live, tasks)
		var could [][]int
		for busy := x.busy(); len(busy) > 0; busy = x.busy() {
			at := len(could)
			could = append(could, busy)
			if at == len(picks) {
				picks = append(picks, busy[0])
			}
			x.pick(picks[at])
		}
		behind(x)
		for what, many := range x.had {
			had[what] += many
		}
		picks, more = nextOrder(picks, could)
	}
	return orders, had
}

// nextOrder is how the next order begins, and whether there is one: the last pick that has another one behind it, among those that could go on there, gives way to it.
func nextOrder(picks []int, could [][]int) ([]int, bool) {
	for at := len(picks) - 1; at >= 0; at-- {
		if i := slices.Index(could[at], picks[at]); i+1 < len(could[at]) {
			return append(picks[:at], could[at][i+1]), true
		}
	}
	return nil, false
}

// P11.2 to P11.5: behind each step of every order there can be.
func TestEveryOrder(t *testing.T) {
	for _, c := range []struct {
		slots, live int
		tasks       [][]task
		least       int      // orders that there are surely, lest the going through ends too early
		had         []string // what comes of one machine at least, in one order or another
	}{
		{1, 0, [][]task{{create1}, {create1}}, 100, []string{"NoSlot"}},
		{2, 0, [][]task{{create1}, {create1}}, 500, []string{"taken again"}},
		{2, 0, [][]task{{create1, last}, {create1}}, 10000, []string{"taken again"}},
		{2, 1, [][]task{{end1}, {create1}}, 500, []string{"taken again"}},
		{1, 1, [][]task{{end1}, {create1}}, 6, []string{"NoSlot"}},
		{1, 1, [][]task{{end1, create1}, {end1, end2}}, 500, []string{"NoSlot", "Stale", "ended again"}},
		{1, 1, [][]task{{end1, create1}, {end1, look1}, {end2}}, 5000, []string{"NoSlot", "Stale", "ended again"}},
		{1, 1, [][]task{{end1}, {grow1, grow1}, {look1}}, 1000, []string{"ended again"}},
		{1, 1, [][]task{{end1}, {end1}, {grow1}}, 1000, []string{"Stale", "ended again"}},
	} {
		orders, had := eachOrder(t, c.slots, c.live, c.tasks, func(*table) {})
		if orders < c.least {
			t.Errorf("%d slots, tasks %v: only %d orders", c.slots, c.tasks, orders)
		}
		for _, what := range c.had {
			if had[what] == 0 {
				t.Errorf("%d slots, tasks %v: no %s", c.slots, c.tasks, what)
			}
		}
	}
}

// P11.5: of several Ends of one region, in every order, just one is Fine; with others that turn its root between.
func TestOneEndIsFineInEveryOrder(t *testing.T) {
	for _, tasks := range [][][]task{
		{{end1}, {end1}},
		{{end1}, {end1}, {end1}},
		{{end1, end1}, {end1, end1}},
		{{end1}, {end1}, {grow1}},
		{{end1, create1, end1}, {end1, end1}},
	} {
		eachOrder(t, 1, 1, tasks, func(x *table) {
			if x.fine[region{0, 1}] != 1 {
				t.Fatalf("%v: %d Ends were Fine", x.picks, x.fine[region{0, 1}])
			}
		})
	}
}

// P11.2 to P11.5: many workers for long, in orders drawn by a fixed rule, in bursts too: so that a machine may sleep while the others turn the slots.
func TestLongRuns(t *testing.T) {
	had := map[string]int{}
	for seed := range 80 {
		n := []int{1, 2, 3, 7, 20}[seed%5]
		var tasks [][]task
		for w := range 2 + seed%4 {
			var l []task
			for i := range 30 {
				l = append(l, task{kind: create}, task{kind: grow, known: (i + w) % 3}, task{kind: look, known: (i * w) % 5})
				l = append(l, slices.Repeat([]task{{kind: end, known: (i*seed + w) % (n + 1)}}, (i+seed)%3)...)
			}
			tasks = append(tasks, l)
		}
		x := seated(t, n, seed%2, tasks)
		drawn := uint64(seed + 1)
		for busy := x.busy(); len(busy) > 0; busy = x.busy() {
			drawn = drawn*6364136223846793005 + 1442695040888963407
			w := busy[int(drawn>>33)%len(busy)]
			for range 1 + int(drawn>>40)%(1+seed%7) {
				if x.hands[w].at != nil {
					x.pick(w)
				}
			}
		}
		for what, many := range x.had {
			had[what] += many
		}
	}
	for _, what := range []string{"NoSlot", "Stale", "taken again", "ended again"} {
		if had[what] < 20 {
			t.Errorf("%s: only %d", what, had[what])
		}
	}
}

// P11.5: several at once, each at its exchange: the first one's turns the root, whichever that is; the others look again.
func TestSeveralEndsAtOnce(t *testing.T) {
	c := slots(2)
	at := rootAt(c, 1)
	was := root(7, 3, 2, 4)
	for first := range 5 {
		m, r := laid(t, c, 1, was)
		var l []*roots.End
		for range 5 {
			l = append(l, ending(t, m, r, 1, 7))
		}
		for _, x := range l {
			wantSteps(t, m, x, false, load(at, was))
		}
		wantSteps(t, m, l[first], true, turn(at, was, root(7, 0, 0, 0)))
		for i, x := range l {
			if i != first {
				wantSteps(t, m, x, true, missed(at, root(7, 0, 0, 0)), load(at, root(7, 0, 0, 0)))
				wantCame(t, x, stale(3))
			}
		}
		wantCame(t, l[first], ended(1, 2))
	}
}

// P11.4, P11.5: an End that sleeps at its exchange while its slot is used again: that region is another one, though its root be like the first one's in all but Gen.
func TestEndThatSleeps(t *testing.T) {
	c := slots(1)
	m, r := filled(t, c)
	through(t, m, creating(t, m, r, 2))
	sleeper := ending(t, m, r, 0, 1)
	wantSteps(t, m, sleeper, false, load(rootAt(c, 0), root(1, 1, 2, 0)))
	through(t, m, ending(t, m, r, 0, 1))
	through(t, m, backing(t, m, r, 0))
	through(t, m, creating(t, m, r, 2))
	wantSteps(t, m, sleeper, true, missed(rootAt(c, 0), root(2, 1, 2, 0)), load(rootAt(c, 0), root(2, 1, 2, 0)))
	wantCame(t, sleeper, stale(3))
	wantRoot(t, r, 0, word.Root{Gen: 2, Mark: word.Bare, Class: 2})
}

// P11.2: one that sleeps between two of its accesses, while its slot's neighbours come and go: the slot is its own from its Point on, and no region until it is done.
func TestCreateThatSleeps(t *testing.T) {
	c := slots(2)
	for asleep := 3; asleep <= 4; asleep++ {
		m, r := filled(t, c)
		sleeper := creating(t, m, r, 3)
		for range asleep {
			sleeper.Step()
		}
		for round := range 3 {
			other := creating(t, m, r, 0)
			through(t, m, other)
			wantCame(t, other, created(1, round+1, 3))
			late := creating(t, m, r, 0)
			through(t, m, late)
			wantCame(t, late, none(1))
			for _, gen := range []int{0, 1, 2} {
				e, l := ending(t, m, r, 0, gen), looking(t, m, r, 0, gen)
				through(t, m, e)
				through(t, m, l)
				wantCame(t, e, stale(1))
				wantCame(t, l, stale(0))
			}
			through(t, m, ending(t, m, r, 1, round+1))
			through(t, m, backing(t, m, r, 1))
		}
		through(t, m, sleeper)
		wantCame(t, sleeper, created(0, 1, 3))
		wantRoot(t, r, 0, word.Root{Gen: 1, Mark: word.Bare, Class: 3})
	}
}

// P11.2: a Create that sleeps at its exchange while the slot that it saw is taken and comes back over another one: the Tag tells it.
func TestCreateThatSleepsAtTheHead(t *testing.T) {
	c := slots(3)
	m, r := filled(t, c)
	sleeper := creating(t, m, r, 0)
	wantSteps(t, m, sleeper, false, load(spareHead, head(0, 0)), load(linkAt(c, 0), 2))
	for range 2 {
		through(t, m, creating(t, m, r, 1))
	}
	through(t, m, ending(t, m, r, 0, 1))
	through(t, m, backing(t, m, r, 0))
	wantSpare(t, r, 0, 2)
	wantSteps(t, m, sleeper, true,
		missed(spareHead, head(0, 3)), load(spareHead, head(0, 3)), load(linkAt(c, 0), 3), turn(spareHead, head(0, 3), head(2, 4)),
		load(rootAt(c, 0), root(1, 0, 0, 0)), store(rootAt(c, 0), root(1, 0, 0, 0), root(2, 1, 0, 0)))
	wantCame(t, sleeper, created(0, 2, 6))
	wantSpare(t, r, 2)
}
