package ballot_test

import (
	"cmp"
	"math/rand"
	"slices"
	"strconv"
	"testing"

	"rostrum/api"
	"rostrum/ballot"
)

// P8.3: whatever is lost and in whatever order, one value is decided.

// All that can happen to a few acceptors, in a few ballots: each way is gone. What is lost is what a way never does.

const (
	fewActs    = 5
	fewBallots = 4
)

// small is a vote by numbers that are small: a value is the ballot of whoever proposed it as its own, 0 none.
type small struct{ promised, ballot, value uint8 }

// act is what an acceptor has (at 0), and what it told of each ballot when it promised it.
type act [fewBallots + 1]small

// state is the acceptors, what was proposed in each ballot, what was decided ahead.
type state struct {
	acts    [fewActs]act
	put     [fewBallots + 1]uint8
	decided uint8
}

// valueOf is a value's text, numberOf the number of the text.
func valueOf(number uint8) string {
	if number == 0 {
		return ""
	}
	return strconv.Itoa(int(number))
}

func numberOf(value string) uint8 {
	number, _ := strconv.Atoi(value)
	return uint8(number)
}

func voteOf(s small) api.Vote {
	return as(uint64(s.promised), uint64(s.ballot), valueOf(s.value))
}

func smallOf(v api.Vote) small {
	return small{uint8(v.Promised), uint8(v.Ballot), numberOf(v.Value)}
}

// ordered orders acceptors: which of them is which makes no other state.
func ordered(x, y act) int {
	return slices.CompareFunc(x[:], y[:], func(a, b small) int {
		return cmp.Or(cmp.Compare(a.promised, b.promised), cmp.Compare(a.ballot, b.ballot), cmp.Compare(a.value, b.value))
	})
}

// walk goes to all states that there are.
type walk struct {
	t       *testing.T
	acts    int
	ballots int
	seen    map[state]bool
	left    []state
	behind  int           // how often not one's own was proposed
	ends    map[uint8]int // how many states there are by what is decided
}

// visit goes to a state, if it is new, and holds what is decided in it.
func (w *walk) visit(s state) {
	var l []api.Vote
	for _, a := range s.acts[:w.acts] {
		l = append(l, voteOf(a[0]))
	}
	value, ok, e := ballot.Decided(l)
	if e != api.OK {
		w.t.Fatalf("Decided(%v): %d", l, e)
	}
	if ok {
		if s.decided > 0 && value != valueOf(s.decided) {
			w.t.Fatalf("%d was decided, then %s: %v", s.decided, value, s)
		}
		s.decided = numberOf(value)
	}
	slices.SortFunc(s.acts[:w.acts], ordered)
	if !w.seen[s] {
		w.seen[s] = true
		w.left = append(w.left, s)
		w.ends[s.decided]++
	}
}

// promise lets an acceptor promise a ballot, and tell so.
func (w *walk) promise(s state, at, b int) {
	if v, e := ballot.Promise(voteOf(s.acts[at][0]), uint64(b)); e == api.OK {
		s.acts[at][0] = smallOf(v)
		s.acts[at][b] = smallOf(v)
		w.visit(s)
	}
}

// propose lets the proposer of a ballot hear some of its promises.
func (w *walk) propose(s state, b int) {
	if s.put[b] > 0 {
		return // each ballot has one value
	}
	for some := range 1 << w.acts {
		var l []api.Vote
		for at := range w.acts {
			if some>>at&1 == 1 && s.acts[at][b] != (small{}) {
				l = append(l, voteOf(s.acts[at][b]))
			}
		}
		value, e := ballot.Proposal(w.acts, l, strconv.Itoa(b))
		if e != api.OK {
			continue
		}
		if value != strconv.Itoa(b) {
			w.behind++
		}
		next := s
		next.put[b] = numberOf(value)
		w.visit(next)
	}
}

// cast lets an acceptor vote for what was proposed in a ballot.
func (w *walk) cast(s state, at, b int) {
	if s.put[b] == 0 {
		return
	}
	if v, e := ballot.Cast(voteOf(s.acts[at][0]), uint64(b), valueOf(s.put[b])); e == api.OK {
		s.acts[at][0] = smallOf(v)
		w.visit(s)
	}
}

// all goes on till no state is left.
func (w *walk) all() {
	w.visit(state{})
	for len(w.left) > 0 {
		s := w.left[len(w.left)-1]
		w.left = w.left[:len(w.left)-1]
		for b := 1; b <= w.ballots; b++ {
			w.propose(s, b)
			for at := range w.acts {
				w.promise(s, at, b)
				w.cast(s, at, b)
			}
		}
	}
}

func TestOneValueAllWays(t *testing.T) {
	for _, c := range []struct{ acts, ballots int }{{1, 4}, {2, 4}, {3, 4}, {4, 3}, {5, 2}} {
		w := &walk{t: t, acts: c.acts, ballots: c.ballots, seen: map[state]bool{}, ends: map[uint8]int{}}
		w.all()
		for number := range c.ballots + 1 { // 0: nothing is decided
			if w.ends[uint8(number)] == 0 {
				t.Errorf("%v: %d is never decided", c, number)
			}
		}
		if w.behind == 0 {
			t.Errorf("%v: no value but one's own is ever proposed", c)
		}
	}
}

// Many acceptors, many ballots: what is told lies about, is taken in any order, more than once, or never.

// said is one of what nodes tell each other: a ballot is asked for, promised, proposed in, voted in.
type said struct {
	kind   int
	ballot uint64
	from   int
	vote   api.Vote
	value  string
}

const (
	asked = iota
	promised
	proposed
	voted
)

// group is acceptors, and what they and proposers have said.
type group struct {
	t       *testing.T
	seed    int64
	r       *rand.Rand
	acts    []api.Vote
	heard   map[uint64]map[int]api.Vote // of each ballot, the promises that came to its proposer
	put     map[uint64]string           // what was proposed in it
	views   [][]api.Vote                // what listeners have heard of the acceptors
	air     []said
	decided map[string]bool
	last    uint64
}

// ask lets a node ask for a ballot of its own.
func (g *group) ask() {
	from := g.last - uint64(g.r.Intn(20)) // often behind what others have asked for
	if from > g.last {
		from = 0
	}
	b, e := ballot.Next(from, g.r.Intn(16))
	if e != api.OK || b <= from {
		g.t.Fatalf("seed %d: Next(%d): %d, %d", g.seed, from, b, e)
	}
	if g.heard[b] == nil {
		g.heard[b] = map[int]api.Vote{}
		g.last = max(g.last, b)
	}
	g.air = append(g.air, slices.Repeat([]said{{kind: asked, ballot: b}}, len(g.acts))...)
}

// come lets something that was said come to one whom it's for.
func (g *group) come(s said) {
	act := g.r.Intn(len(g.acts))
	switch s.kind {
	case asked:
		if v, e := ballot.Promise(g.acts[act], s.ballot); e == api.OK {
			g.acts[act] = v
			g.air = append(g.air, said{kind: promised, ballot: s.ballot, from: act, vote: v})
		}
	case promised:
		g.heard[s.ballot][s.from] = s.vote
		g.propose(s.ballot)
	case proposed:
		if v, e := ballot.Cast(g.acts[act], s.ballot, s.value); e == api.OK {
			g.acts[act] = v
			g.air = append(g.air, said{kind: voted, from: act, vote: v})
		}
	case voted:
		view := g.views[g.r.Intn(len(g.views))]
		view[s.from] = s.vote // an older one may come behind a newer one
		g.decide(view)
	}
	g.decide(g.acts)
}

// propose proposes in a ballot, if enough have promised it.
func (g *group) propose(b uint64) {
	if _, ok := g.put[b]; ok {
		return
	}
	var l []api.Vote
	for _, act := range g.r.Perm(len(g.acts)) {
		if v, ok := g.heard[b][act]; ok {
			l = append(l, v)
		}
	}
	own := strconv.FormatUint(b, 10)
	if b%16 == 3 {
		own = "" // an empty value is a value
	}
	value, e := ballot.Proposal(len(g.acts), l, own)
	if e == api.ErrGroup {
		return
	}
	if e != api.OK {
		g.t.Fatalf("seed %d: Proposal(%v): %d", g.seed, l, e)
	}
	g.put[b] = value
	g.air = append(g.air, slices.Repeat([]said{{kind: proposed, ballot: b, value: value}}, len(g.acts)+2)...)
}

// decide holds what is decided.
func (g *group) decide(l []api.Vote) {
	value, ok, e := ballot.Decided(l)
	if e != api.OK {
		g.t.Fatalf("seed %d: Decided(%v): %d", g.seed, l, e)
	}
	if ok {
		g.decided[value] = true
	}
	if len(g.decided) > 1 {
		g.t.Fatalf("seed %d: more than one value is decided: %v", g.seed, g.decided)
	}
}

// run lets so much happen.
func (g *group) run(steps int) {
	lost := g.r.Intn(3)
	eager := 10 + g.r.Intn(60)
	for range steps {
		if len(g.air) == 0 || g.r.Intn(eager) == 0 {
			g.ask()
		}
		at := g.r.Intn(len(g.air))
		if g.r.Intn(3) == 0 {
			at = len(g.air) - 1 // what was said last, so that something is decided
		}
		s := g.air[at]
		if g.r.Intn(8) > 0 { // else it comes once more
			g.air = slices.Delete(g.air, at, at+1)
		}
		if g.r.Intn(12) >= lost {
			g.come(s)
		}
	}
}

func TestOneValueOfMany(t *testing.T) {
	decided, agreed := 0, 0
	for seed := range int64(1500) {
		r := rand.New(rand.NewSource(seed))
		g := &group{t: t, seed: seed, r: r, acts: make([]api.Vote, 1+r.Intn(16)), heard: map[uint64]map[int]api.Vote{}, put: map[uint64]string{}, decided: map[string]bool{}}
		for range 3 {
			g.views = append(g.views, make([]api.Vote, len(g.acts)))
		}
		g.run(1200)
		decided += len(g.decided)
		for b, value := range g.put {
			if value != "" && value != strconv.FormatUint(b, 10) {
				agreed++
			}
		}
	}
	if decided < 700 || agreed < 1500 {
		t.Errorf("decided in %d runs, proposed for another one's sake %d times", decided, agreed)
	}
}
