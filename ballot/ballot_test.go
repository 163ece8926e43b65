package ballot_test

import (
	"math"
	"math/rand"
	"slices"
	"strings"
	"testing"
	"unsafe"

	"rostrum/api"
	"rostrum/ballot"
)

const (
	maxValue  = 4000
	maxBallot = 1152921504606846976
)

// longest has as many bytes as a value has at most, tooLong one more.
var (
	longest = strings.Repeat("v", maxValue)
	tooLong = longest + "v"
)

// as is an acceptor.
func as(promised, ballot uint64, value string) api.Vote {
	return api.Vote{Promised: promised, Ballot: ballot, Value: value}
}

// wrongVotes are acceptors that are not right.
func wrongVotes() []api.Vote {
	return []api.Vote{
		as(0, 1, ""), as(0, 1, "x"), as(4, 5, "x"), as(4, 5, ""), as(16, 17, "x"), as(0, math.MaxUint64, "x"),
		as(1<<32, 1<<32+1, "x"), as(1, 1<<32, "x"), as(1<<63, 1<<63+1, "x"), as(math.MaxUint64-1, math.MaxUint64, ""),
		as(0, 0, "x"), as(7, 0, "x"), as(7, 0, "\x00"), as(math.MaxUint64, 0, " "), as(7, 0, longest), as(7, 0, tooLong),
		as(7, 7, tooLong), as(7, 1, tooLong), as(7, 1, strings.Repeat("v", 2*maxValue)), as(7, 1, strings.Repeat("ä", maxValue/2+1)), as(7, 8, tooLong),
	}
}

// rightVotes are acceptors that are right.
func rightVotes() []api.Vote {
	return []api.Vote{
		{}, as(1, 0, ""), as(1, 1, ""), as(1, 1, "x"), as(17, 0, ""), as(17, 16, "x"), as(17, 17, "x"), as(17, 1, ""),
		as(9, 3, longest), as(9, 9, longest), as(9, 3, strings.Repeat("ä", maxValue/2)), as(9, 3, "\x00"), as(9, 3, "\xff\xfe"),
		as(1<<32, 1<<32-1, "x"), as(maxBallot, maxBallot, "x"), as(maxBallot+1, maxBallot+1, "x"), as(1<<63, 1<<63-1, "x"),
		as(math.MaxUint64, 0, ""), as(math.MaxUint64, 1, "x"), as(math.MaxUint64, math.MaxUint64-1, "x"), as(math.MaxUint64, math.MaxUint64, "x"),
	}
}

// ballots are at edges.
var ballots = []uint64{0, 1, 2, 3, 4, 7, 8, 15, 16, 17, 18, 31, 1<<31 - 1, 1 << 31, 1<<32 - 1, 1 << 32, 1<<32 + 1, maxBallot - 1, maxBallot, maxBallot + 1, 1<<63 - 1, 1 << 63, 1<<63 + 1, math.MaxUint64 - 1, math.MaxUint64}

// promises holds a Promise against what it should be.
func promises(t *testing.T, v api.Vote, b uint64, want api.Vote, wantE api.Errno) {
	t.Helper()
	if got, e := ballot.Promise(v, b); got != want || e != wantE {
		t.Errorf("Promise(%.40v, %d): %.40v, %d; want %.40v, %d", v, b, got, e, want, wantE)
	}
}

// casts holds a Cast against what it should be.
func casts(t *testing.T, v api.Vote, b uint64, value string, want api.Vote, wantE api.Errno) {
	t.Helper()
	if got, e := ballot.Cast(v, b, value); got != want || e != wantE {
		t.Errorf("Cast(%.40v, %d, %.10q): %.40v, %d; want %.40v, %d", v, b, value, got, e, want, wantE)
	}
}

// proposes holds a Proposal against what it should be.
func proposes(t *testing.T, n int, l []api.Vote, own string, want string, wantE api.Errno) {
	t.Helper()
	if got, e := ballot.Proposal(n, l, own); got != want || e != wantE {
		t.Errorf("Proposal(%d, %.80v, %.10q): %.10q, %d; want %.10q, %d", n, l, own, got, e, want, wantE)
	}
}

// decides holds a Decided against what it should be.
func decides(t *testing.T, l []api.Vote, want string, wantOk bool, wantE api.Errno) {
	t.Helper()
	if got, ok, e := ballot.Decided(l); got != want || ok != wantOk || e != wantE {
		t.Errorf("Decided(%.80v): %.10q, %v, %d; want %.10q, %v, %d", l, got, ok, e, want, wantOk, wantE)
	}
}

// The document's examples.

func TestExamples(t *testing.T) {
	promises(t, api.Vote{}, 17, as(17, 0, ""), api.OK)
	promises(t, as(17, 0, ""), 16, api.Vote{}, api.ErrBallot)
	casts(t, as(17, 0, ""), 16, "x", api.Vote{}, api.ErrBallot)
	casts(t, as(17, 0, ""), 17, "x", as(17, 17, "x"), api.OK)
}

// P8.1: Right.

func TestRight(t *testing.T) {
	for _, v := range rightVotes() {
		if !ballot.Right(v) {
			t.Errorf("Right(%.40v): false", v)
		}
	}
	for _, v := range wrongVotes() {
		if ballot.Right(v) {
			t.Errorf("Right(%.40v): true", v)
		}
	}
}

func TestRightOfAllNumbers(t *testing.T) {
	for _, promised := range ballots {
		for _, voted := range ballots {
			for _, value := range []string{"", "x", longest, tooLong} {
				want := voted <= promised && (voted > 0 || value == "") && len(value) <= maxValue
				if got := ballot.Right(as(promised, voted, value)); got != want {
					t.Errorf("Right(%d, %d, %.10q): %v", promised, voted, value, got)
				}
			}
		}
	}
}

// P8.1: Promise.

func TestPromise(t *testing.T) {
	for _, v := range rightVotes() {
		for _, b := range append(ballots, v.Promised-1, v.Promised, v.Promised+1) {
			switch {
			case b == 0:
				promises(t, v, b, api.Vote{}, api.ErrArg)
			case b > v.Promised:
				promises(t, v, b, as(b, v.Ballot, v.Value), api.OK) // what it voted for stays
			default:
				promises(t, v, b, api.Vote{}, api.ErrBallot)
			}
		}
	}
}

func TestPromiseOfWrong(t *testing.T) {
	for _, v := range wrongVotes() {
		for _, b := range append(ballots, v.Promised-1, v.Promised, v.Promised+1) { // the acceptor is held ahead of the ballot
			promises(t, v, b, api.Vote{}, api.ErrArg)
		}
	}
}

// P8.1: Cast.

func TestCast(t *testing.T) {
	for _, v := range rightVotes() {
		for _, b := range append(ballots, v.Promised-1, v.Promised, v.Promised+1, v.Ballot) {
			for _, value := range []string{"", "y", v.Value, longest, strings.Repeat("ä", maxValue/2)} {
				switch {
				case b == 0:
					casts(t, v, b, value, api.Vote{}, api.ErrArg)
				case b >= v.Promised:
					casts(t, v, b, value, as(b, b, value), api.OK)
				default:
					casts(t, v, b, value, api.Vote{}, api.ErrBallot)
				}
			}
		}
	}
}

func TestCastOfWrong(t *testing.T) {
	for _, v := range wrongVotes() {
		for _, b := range append(ballots, v.Promised-1, v.Promised, v.Promised+1) {
			for _, value := range []string{"", "y", tooLong} {
				casts(t, v, b, value, api.Vote{}, api.ErrArg)
			}
		}
	}
	for _, v := range rightVotes() {
		for _, b := range ballots { // too long is held ahead of the ballot
			casts(t, v, b, tooLong, api.Vote{}, api.ErrArg)
			casts(t, v, b, strings.Repeat("ä", maxValue/2+1), api.Vote{}, api.ErrArg)
		}
	}
}

// P8.2: Proposal.

func TestProposal(t *testing.T) {
	none, a, b := as(9, 0, ""), as(9, 2, "a"), as(9, 4, "b")
	for _, c := range []struct {
		n    int
		l    []api.Vote
		want string
	}{
		{1, []api.Vote{none}, "own"}, {1, []api.Vote{{}}, "own"}, {1, []api.Vote{a}, "a"},
		{2, []api.Vote{none, none}, "own"}, {2, []api.Vote{none, a}, "a"}, {2, []api.Vote{b, a}, "b"}, {2, []api.Vote{a, b}, "b"},
		{3, []api.Vote{none, a, none}, "a"}, {3, []api.Vote{none, a}, "a"}, {3, []api.Vote{a, none}, "a"}, {3, []api.Vote{none, none}, "own"},
		{3, []api.Vote{a, b, a}, "b"}, {3, []api.Vote{a, a, b}, "b"}, {3, []api.Vote{b, a, a}, "b"}, // the greatest ballot, not the most votes
		{3, []api.Vote{as(9, 9, "z"), as(5, 5, "y"), none}, "z"},
		{3, []api.Vote{as(9, 4, "x"), as(9, 4, "y"), as(9, 4, "z")}, "x"}, {3, []api.Vote{a, as(9, 4, "y"), as(9, 4, "x")}, "y"}, // the first of these
		{3, []api.Vote{as(9, 1, "low"), as(99, 1, "far")}, "low"}, {3, []api.Vote{as(99, 1, "far"), as(9, 3, "near")}, "near"}, // what they promised doesn't count
		{3, []api.Vote{none, as(9, 1, "")}, ""}, {3, []api.Vote{a, as(9, 4, "")}, ""}, {3, []api.Vote{as(9, 1, ""), a}, "a"}, // an empty value is a value
		{3, []api.Vote{as(9, 4, ""), as(9, 4, "x")}, ""},
		{3, []api.Vote{as(math.MaxUint64, 1<<32, "above"), as(math.MaxUint64, 1<<32-1, "below")}, "above"},
		{3, []api.Vote{as(math.MaxUint64, 1<<63-1, "below"), as(math.MaxUint64, math.MaxUint64, "above"), as(math.MaxUint64, 1<<63, "below")}, "above"},
		{3, []api.Vote{a, as(9, 9, longest)}, longest},
	} {
		proposes(t, c.n, c.l, "own", c.want, api.OK)
	}
	proposes(t, 3, []api.Vote{none, none}, "", "", api.OK)
	proposes(t, 3, []api.Vote{none, none}, longest, longest, api.OK)
	proposes(t, 3, []api.Vote{none, a}, longest, "a", api.OK)
}

func TestProposalOfGroups(t *testing.T) {
	for _, n := range []int{math.MinInt, math.MinInt32, -16, -2, -1, 0, 1, 2, 3, 4, 5, 6, 7, 8, 9, 10, 11, 12, 13, 14, 15, 16, 17, 18, 31, 32, 33, 1 << 32, 1<<32 + 3, math.MaxInt - 1, math.MaxInt} {
		for size := range 40 {
			l := slices.Repeat([]api.Vote{as(9, 0, "")}, size)
			if n >= 1 && n <= 16 && size <= n && size*2 > n {
				proposes(t, n, l, "own", "own", api.OK)
				proposes(t, n, append(l[1:], as(9, 3, "last")), "own", "last", api.OK)
			} else {
				proposes(t, n, l, "own", "", api.ErrGroup)
			}
		}
	}
}

func TestProposalOfWrong(t *testing.T) {
	for _, wrong := range wrongVotes() {
		for place := range 3 { // wherever it stands, whatever it would lose or win
			l := []api.Vote{{}, as(9, 3, "x"), as(math.MaxUint64, math.MaxUint64, "x")}
			l[place] = wrong
			proposes(t, 3, l, "own", "", api.ErrArg)
			proposes(t, 5, l, tooLong, "", api.ErrArg)
			proposes(t, 6, l, "own", "", api.ErrGroup) // the group is held ahead of the acceptors
			proposes(t, 2, l, "own", "", api.ErrGroup)
			proposes(t, 0, l, "own", "", api.ErrGroup)
			proposes(t, 17, slices.Repeat(l, 4), "own", "", api.ErrGroup)
		}
	}
	l := []api.Vote{{}, as(9, 3, "x")}
	proposes(t, 3, l, tooLong, "", api.ErrArg) // though it would not be proposed
	proposes(t, 3, l, strings.Repeat("ä", maxValue/2+1), "", api.ErrArg)
	proposes(t, 4, l, tooLong, "", api.ErrGroup)
	proposes(t, 1, nil, tooLong, "", api.ErrGroup)
}

// P8.2: Decided.

func TestDecided(t *testing.T) {
	none, a, b := as(9, 0, ""), as(9, 2, "a"), as(9, 4, "b")
	for _, c := range []struct {
		l    []api.Vote
		want string
		ok   bool
	}{
		{[]api.Vote{{}}, "", false}, {[]api.Vote{none}, "", false}, {[]api.Vote{a}, "a", true},
		{[]api.Vote{a, none}, "", false}, {[]api.Vote{a, b}, "", false}, {[]api.Vote{b, b}, "b", true},
		{[]api.Vote{a, b, a}, "a", true}, {[]api.Vote{b, a, a}, "a", true}, {[]api.Vote{a, a, none}, "a", true}, {[]api.Vote{none, b, b}, "b", true},
		{[]api.Vote{a, b, none}, "", false}, {[]api.Vote{none, none, none}, "", false}, {[]api.Vote{none, none, a}, "", false},
		{[]api.Vote{a, a, b, b}, "", false}, {[]api.Vote{a, a, none, none}, "", false}, {[]api.Vote{a, a, b, a}, "a", true},
		{[]api.Vote{a, as(9, 3, "a"), as(9, 4, "a")}, "", false},                                 // one value, but in three ballots
		{[]api.Vote{as(9, 4, "x"), as(9, 4, "y"), as(9, 4, "z")}, "", false},                     // one ballot, but three values
		{[]api.Vote{as(9, 2, "a"), as(9, 3, "a"), as(9, 3, "a")}, "a", true},                     // more than half of them in one
		{[]api.Vote{as(4, 4, "b"), as(9, 4, "b"), as(9, 2, "a")}, "b", true},                     // whatever they have promised since
		{[]api.Vote{as(1, 1, "b"), as(2, 1, "b"), as(3, 1, "b"), as(4, 1, "b")}, "b", true},      // so, too
		{[]api.Vote{as(9, 1, ""), as(8, 1, ""), none}, "", true},                                 // an empty value is a value
		{[]api.Vote{as(9, 1, ""), none, none}, "", false},                                        // who has not voted has not voted for an empty one
		{[]api.Vote{as(9, 1, ""), as(9, 2, ""), as(9, 3, "")}, "", false},                        // nor is it one ballot
		{[]api.Vote{as(9, 3, longest), as(9, 4, ""), as(9, 3, longest)}, longest, true},          // at the edge of the length
		{[]api.Vote{as(9, 3, longest), as(9, 3, longest[1:]), as(9, 3, longest)}, longest, true}, // held against each other to their ends
		{[]api.Vote{as(9, 3, longest), as(9, 3, longest[1:]+"w")}, "", false},
		{[]api.Vote{as(1<<33, 1, "x"), as(1<<33, 1<<32+1, "x")}, "", false},
		{[]api.Vote{as(math.MaxUint64, math.MaxUint64, "x"), as(math.MaxUint64, math.MaxUint64, "x")}, "x", true},
	} {
		decides(t, c.l, c.want, c.ok, api.OK)
	}
}

func TestDecidedOfAllCounts(t *testing.T) {
	for n := 1; n <= 16; n++ {
		for count := 0; count <= n; count++ {
			for _, other := range []api.Vote{{}, as(9, 0, ""), as(9, 2, "x"), as(9, 4, "x"), as(9, 3, "y"), as(9, 3, "")} {
				l := slices.Concat(slices.Repeat([]api.Vote{as(9, 3, "x")}, count), slices.Repeat([]api.Vote{other}, n-count))
				want, ok := "", false
				switch {
				case count*2 > n:
					want, ok = "x", true
				case (n-count)*2 > n && other.Ballot > 0:
					want, ok = other.Value, true
				}
				decides(t, l, want, ok, api.OK)
				slices.Reverse(l)
				decides(t, l, want, ok, api.OK)
			}
		}
	}
}

func TestDecidedOfWrong(t *testing.T) {
	decides(t, nil, "", false, api.ErrGroup)
	decides(t, []api.Vote{}, "", false, api.ErrGroup)
	for _, n := range []int{17, 18, 31, 32, 33, 100, 1000} {
		decides(t, slices.Repeat([]api.Vote{as(9, 3, "x")}, n), "", false, api.ErrGroup)
	}
	for _, wrong := range wrongVotes() {
		for place := range 5 { // though a value has more than half of them ahead of it, too
			l := slices.Repeat([]api.Vote{as(9, 3, "x")}, 5)
			l[place] = wrong
			decides(t, l, "", false, api.ErrArg)
			decides(t, l[place:place+1], "", false, api.ErrArg)
		}
		decides(t, append(slices.Repeat([]api.Vote{as(9, 3, "x")}, 15), wrong), "", false, api.ErrArg)
		decides(t, append(slices.Repeat([]api.Vote{as(9, 3, "x")}, 16), wrong), "", false, api.ErrGroup)
	}
}

// P8.2: Next.

func TestNext(t *testing.T) {
	starts := []uint64{0, 100, 1 << 20, 1<<31 - 40, 1<<32 - 40, 1<<53 - 40, maxBallot - 80}
	for _, start := range starts {
		for b := start; b < start+81 && b <= maxBallot; b++ {
			for node := range 16 {
				want := b + 1
				for want%16 != uint64(node) {
					want++
				}
				if got, e := ballot.Next(b, node); got != want || e != api.OK {
					t.Errorf("Next(%d, %d): %d, %d; want %d", b, node, got, e, want)
				}
			}
		}
	}
}

func TestNextOfTheGreatest(t *testing.T) {
	for node := range 16 {
		want := uint64(maxBallot + node)
		if node == 0 {
			want = maxBallot + 16
		}
		if got, e := ballot.Next(maxBallot, node); got != want || e != api.OK {
			t.Errorf("Next(2^60, %d): %d, %d; want %d", node, got, e, want)
		}
	}
}

func TestNextOfWrong(t *testing.T) {
	for _, b := range ballots {
		for _, node := range []int{math.MinInt, math.MinInt + 1, math.MinInt32, -17, -16, -2, -1, 16, 17, 31, 32, 1 << 32, 1<<32 + 1, math.MaxInt32, math.MaxInt} {
			if got, e := ballot.Next(b, node); got != 0 || e != api.ErrArg {
				t.Errorf("Next(%d, %d): %d, %d", b, node, got, e)
			}
		}
		for node := range 16 {
			if got, e := ballot.Next(b, node); b > maxBallot && (got != 0 || e != api.ErrArg) {
				t.Errorf("Next(%d, %d): %d, %d", b, node, got, e)
			}
		}
	}
}

// R3: what is handed in is not written into, nor its spare room; what is answered is new memory.

func TestNothingIsWrittenInto(t *testing.T) {
	l := []api.Vote{as(9, 4, "b"), as(9, 2, "a"), as(9, 4, "b"), as(8, 8, "spare"), as(7, 7, "spare")}
	before := slices.Clone(l)
	proposes(t, 5, l[:3], "own", "b", api.OK)
	decides(t, l[:3], "b", true, api.OK)
	if !slices.Equal(l, before) {
		t.Error(l)
	}
}

// shared tells whether two texts share memory.
func shared(a, b string) bool {
	if a == "" || b == "" {
		return false
	}
	x, y := uintptr(unsafe.Pointer(unsafe.StringData(a))), uintptr(unsafe.Pointer(unsafe.StringData(b)))
	return x < y+uintptr(len(b)) && y < x+uintptr(len(a))
}

func TestNewMemory(t *testing.T) {
	value, own := strings.Repeat("v", 7), strings.Repeat("o", 7)
	l := []api.Vote{as(9, 4, value), as(9, 4, value)}
	promised, _ := ballot.Promise(l[0], 10)
	voted, _ := ballot.Cast(api.Vote{}, 10, value)
	proposal, _ := ballot.Proposal(3, l, own)
	owned, _ := ballot.Proposal(1, []api.Vote{{}}, own)
	decided, _, _ := ballot.Decided(l)
	for at, got := range []string{promised.Value, voted.Value, proposal, owned, decided} {
		if shared(got, value) || shared(got, own) || len(got) != 7 {
			t.Error(at, got)
		}
	}
}

// Whatever is handed in: as the chapter's words alone tell it.

func isRight(v api.Vote) bool {
	switch {
	case v.Ballot > v.Promised:
		return false
	case v.Ballot == 0 && v.Value != "":
		return false
	}
	return len(v.Value) <= maxValue
}

func allRight(l []api.Vote) bool {
	return !slices.ContainsFunc(l, func(v api.Vote) bool { return !isRight(v) })
}

func plainProposal(n int, l []api.Vote, own string) (string, api.Errno) {
	switch {
	case n < 1 || n > 16 || len(l) > n || len(l) < n/2+1:
		return "", api.ErrGroup
	case !allRight(l) || len(own) > maxValue:
		return "", api.ErrArg
	}
	for _, v := range l {
		greatest := !slices.ContainsFunc(l, func(w api.Vote) bool { return w.Ballot > v.Ballot })
		if greatest && v.Ballot > 0 {
			return v.Value, api.OK
		}
	}
	return own, api.OK
}

func plainDecided(l []api.Vote) (string, bool, api.Errno) {
	switch {
	case len(l) < 1 || len(l) > 16:
		return "", false, api.ErrGroup
	case !allRight(l):
		return "", false, api.ErrArg
	}
	for _, v := range l {
		count := 0
		for _, w := range l {
			if v.Ballot > 0 && w.Ballot == v.Ballot && w.Value == v.Value {
				count++
			}
		}
		if count >= len(l)/2+1 {
			return v.Value, true, api.OK
		}
	}
	return "", false, api.OK
}

// some is an acceptor, most often a right one.
func some(r *rand.Rand, few int) api.Vote {
	v := as(uint64(r.Intn(few)), 0, "")
	if r.Intn(3) > 0 {
		v.Ballot = uint64(r.Intn(int(v.Promised) + 1))
	}
	if v.Ballot > 0 || r.Intn(200) == 0 {
		v.Value = []string{"", "a", "b"}[r.Intn(3)]
	}
	if r.Intn(300) == 0 {
		v.Ballot = v.Promised + 1
	}
	if r.Intn(300) == 0 {
		v.Value = tooLong
	}
	return v
}

func TestAsPlainly(t *testing.T) {
	for seed := range int64(40000) {
		r := rand.New(rand.NewSource(seed))
		l := make([]api.Vote, r.Intn(19))
		few := 1 + r.Intn(6)
		for at := range l {
			l[at] = some(r, few)
		}
		n, own := r.Intn(20)-1, "own"
		if r.Intn(50) == 0 {
			own = tooLong
		}
		want, wantE := plainProposal(n, l, own)
		proposes(t, n, l, own, want, wantE)
		want, wantE = plainProposal(len(l), l, own)
		proposes(t, len(l), l, own, want, wantE)
		want, ok, wantE := plainDecided(l)
		decides(t, l, want, ok, wantE)
		for _, v := range l {
			if got := ballot.Right(v); got != isRight(v) {
				t.Errorf("Right(%.40v): %v", v, got)
			}
		}
		if t.Failed() {
			t.Fatalf("seed %d", seed)
		}
	}
}
