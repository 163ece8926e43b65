package paxos_test

import (
	"encoding/binary"
	"math"
	"slices"
	"strings"
	"testing"
	"unsafe"

	"rostrum/api"
	"rostrum/paxos"
)

const (
	maxInst  = 10000
	maxValue = 4000
)

// longest has as many bytes as a value has at most, tooLong one more.
var (
	longest = strings.Repeat("v", maxValue)
	tooLong = longest + "v"
)

// wrongInstances are none, rightInstances are some.
var (
	wrongInstances = []int{math.MinInt, math.MinInt + 1, math.MinInt32, -(1 << 32) + 1, -10001, -10000, -2, -1, 0, 10001, 10002, 20000, 1 << 16, math.MaxInt32, 1 << 31, 1<<32 - 1, 1 << 32, 1<<32 + 1, 1<<32 + 10000, math.MaxInt - 1, math.MaxInt}
	rightInstances = []int{1, 2, 3, 127, 128, 255, 256, 257, 4096, 9999, 10000}
)

// ballots are right ones, rising, at edges.
var ballots = []uint64{1, 2, 5, 15, 16, 17, 255, 256, 65535, 65536, 1<<24 - 1, 1 << 24, 1<<31 - 1, 1 << 31, 1<<32 - 1, 1 << 32, 1<<32 + 1, 1<<32 + 5, 1<<40 + 3, 1<<60 + 7, 1<<63 - 1, 1 << 63, 0x0807060504030201 + 1<<63, math.MaxUint64 - 1, math.MaxUint64}

// values are right ones.
var values = []string{"", "x", "xy", "\x00", "\xff\xfe", "p\x01\x00\x00\x00", "ä", strings.Repeat("ä", maxValue/2), longest[1:], longest}

// as is an acceptor.
func as(promised, ballot uint64, value string) api.Vote {
	return api.Vote{Promised: promised, Ballot: ballot, Value: value}
}

// pRecord, vRecord, dRecord are records.
func pRecord(inst int, ballot uint64) string {
	b := binary.LittleEndian.AppendUint32([]byte("p"), uint32(inst))
	return string(binary.LittleEndian.AppendUint64(b, ballot))
}

func vRecord(inst int, ballot uint64, value string) string {
	return "v" + pRecord(inst, ballot)[1:] + value
}

func dRecord(inst int, value string) string {
	return string(binary.LittleEndian.AppendUint32([]byte("d"), uint32(inst))) + value
}

// seen is all that can be told of a node's few first instances, and of its last ones.
type seen struct {
	prefix  []string
	votes   []api.Vote
	decided []string
	known   []bool
}

func look(n *paxos.Node) seen {
	s := seen{prefix: n.Prefix()}
	for inst := -1; inst <= maxInst+1; inst++ {
		if inst == 60 {
			inst = maxInst - 3
		}
		value, ok := n.Decided(inst)
		s.votes, s.decided, s.known = append(s.votes, n.Vote(inst)), append(s.decided, value), append(s.known, ok)
	}
	return s
}

func (s seen) equal(o seen) bool {
	return slices.Equal(s.prefix, o.prefix) && slices.Equal(s.votes, o.votes) && slices.Equal(s.decided, o.decided) && slices.Equal(s.known, o.known)
}

// promises holds a Promise against what it should be.
func promises(t *testing.T, n *paxos.Node, inst int, b uint64, want api.Vote, wantE api.Errno) {
	t.Helper()
	wantR := ""
	if wantE == api.OK {
		wantR = pRecord(inst, b)
	}
	if got, r, e := n.Promise(inst, b); got != want || r != wantR || e != wantE {
		t.Errorf("Promise(%d, %d): %.40v, %q, %d; want %.40v, %q, %d", inst, b, got, r, e, want, wantR, wantE)
	}
}

// casts holds a Cast against what it should be.
func casts(t *testing.T, n *paxos.Node, inst int, b uint64, value string, wantE api.Errno) {
	t.Helper()
	want := ""
	if wantE == api.OK {
		want = vRecord(inst, b, value)
	}
	if got, e := n.Cast(inst, b, value); got != want || e != wantE {
		t.Errorf("Cast(%d, %d, %.10q): %.40q, %d; want %.40q, %d", inst, b, value, got, e, want, wantE)
	}
}

// learns holds a Learn against what it should be: isNew tells whether there is a record.
func learns(t *testing.T, n *paxos.Node, inst int, value string, isNew bool, wantE api.Errno) {
	t.Helper()
	want := ""
	if isNew {
		want = dRecord(inst, value)
	}
	if got, e := n.Learn(inst, value); got != want || e != wantE {
		t.Errorf("Learn(%d, %.10q): %.40q, %d; want %.40q, %d", inst, value, got, e, want, wantE)
	}
}

// replays holds a Replay against what it should be.
func replays(t *testing.T, n *paxos.Node, record string, wantE api.Errno) {
	t.Helper()
	if e := n.Replay(record); e != wantE {
		t.Errorf("Replay(%.40q): %d; want %d", record, e, wantE)
	}
}

// compacts holds a Compact against what it should be.
func compacts(t *testing.T, n *paxos.Node, inst int, wantE api.Errno) {
	t.Helper()
	if e := n.Compact(inst); e != wantE {
		t.Errorf("Compact(%d): %d; want %d", inst, e, wantE)
	}
}

// isVote holds a Vote against what it should be.
func isVote(t *testing.T, n *paxos.Node, inst int, want api.Vote) {
	t.Helper()
	if got := n.Vote(inst); got != want {
		t.Errorf("Vote(%d): %.40v; want %.40v", inst, got, want)
	}
}

// isPrefix holds a Prefix against what it should be.
func isPrefix(t *testing.T, n *paxos.Node, want ...string) {
	t.Helper()
	if got := n.Prefix(); !slices.Equal(got, want) {
		t.Errorf("Prefix: %.80q; want %.80q", got, want)
	}
}

// isDecided holds a Decided against what it should be.
func isDecided(t *testing.T, n *paxos.Node, inst int, want string, wantOk bool) {
	t.Helper()
	if got, ok := n.Decided(inst); got != want || ok != wantOk {
		t.Errorf("Decided(%d): %.40q, %v; want %.40q, %v", inst, got, ok, want, wantOk)
	}
}

// gone is a node of which so many instances are gone: each has a vote and a value ahead.
func gone(t *testing.T, count int) *paxos.Node {
	t.Helper()
	n := paxos.New()
	for inst := 1; inst <= count; inst++ {
		casts(t, n, inst, 9, "gone", api.OK)
		learns(t, n, inst, "kept", true, api.OK)
	}
	compacts(t, n, count, api.OK)
	return n
}

// The document's examples.

func TestExamples(t *testing.T) {
	n := paxos.New()
	v, r, e := n.Promise(1, 17)
	if v != as(17, 0, "") || r != "p\x01\x00\x00\x00\x11\x00\x00\x00\x00\x00\x00\x00" || e != api.OK {
		t.Errorf("%v %q %d", v, r, e)
	}
	learns(t, n, 2, "b", true, api.OK)
	isPrefix(t, n)
	learns(t, n, 1, "a", true, api.OK)
	isPrefix(t, n, "a", "b")
}

// P9.1: New.

func TestNew(t *testing.T) {
	n, other := paxos.New(), paxos.New()
	if n == nil || n == other {
		t.Fatal(n, other)
	}
	isPrefix(t, n)
	promises(t, n, 1, 4, as(4, 0, ""), api.OK)
	casts(t, n, 2, 4, "x", api.OK)
	learns(t, n, 1, "x", true, api.OK)
	compacts(t, n, 1, api.OK)
	if !look(other).equal(look(paxos.New())) { // each has its own
		t.Error(look(other))
	}
	promises(t, other, 1, 1, as(1, 0, ""), api.OK)
}

// P9.1: Promise.

func TestPromise(t *testing.T) {
	for _, inst := range rightInstances {
		n := paxos.New()
		last := uint64(0)
		for _, b := range ballots {
			promises(t, n, inst, b, as(b, 0, ""), api.OK)
			isVote(t, n, inst, as(b, 0, ""))
			promises(t, n, inst, b, api.Vote{}, api.ErrBallot) // it is promised already
			if last > 0 {
				promises(t, n, inst, last, api.Vote{}, api.ErrBallot)
			}
			promises(t, n, inst, 1, api.Vote{}, api.ErrBallot)
			promises(t, n, inst, 0, api.Vote{}, api.ErrArg)
			isVote(t, n, inst, as(b, 0, ""))
			last = b
		}
	}
}

func TestPromiseTellsTheVote(t *testing.T) {
	for _, value := range values {
		n := paxos.New()
		casts(t, n, 7, 5, value, api.OK)
		promises(t, n, 7, 6, as(6, 5, value), api.OK)
		promises(t, n, 7, 1<<40, as(1<<40, 5, value), api.OK)
		promises(t, n, 7, 9, api.Vote{}, api.ErrBallot)
		isVote(t, n, 7, as(1<<40, 5, value))
	}
}

func TestInstancesAreApart(t *testing.T) {
	n := paxos.New()
	for at, inst := range rightInstances {
		promises(t, n, inst, uint64(100-at), as(uint64(100-at), 0, ""), api.OK)
	}
	for at, inst := range rightInstances {
		casts(t, n, inst, uint64(100-at), "x", api.OK)
	}
	for at, inst := range rightInstances {
		isVote(t, n, inst, as(uint64(100-at), uint64(100-at), "x"))
		isDecided(t, n, inst, "", false) // who votes has not learned
	}
	for _, inst := range []int{4, 126, 129, 254, 258, 9998} {
		isVote(t, n, inst, api.Vote{})
	}
}

func TestPromiseOfWrong(t *testing.T) {
	n := gone(t, 3)
	before := look(n)
	for _, b := range append([]uint64{0}, ballots...) {
		for _, inst := range wrongInstances {
			promises(t, n, inst, b, api.Vote{}, api.ErrArg)
		}
		for inst := 1; inst <= 3; inst++ { // ahead of all that ballot tells
			promises(t, n, inst, b, api.Vote{}, api.ErrGone)
		}
	}
	promises(t, n, 4, 0, api.Vote{}, api.ErrArg)
	if !look(n).equal(before) {
		t.Error(look(n))
	}
	promises(t, n, 4, 1, as(1, 0, ""), api.OK)
}

// P9.1: Cast.

func TestCast(t *testing.T) {
	for _, inst := range rightInstances {
		for _, value := range values {
			n := paxos.New()
			last := uint64(0)
			for _, b := range ballots {
				casts(t, n, inst, b, value, api.OK)
				isVote(t, n, inst, as(b, b, value))
				if last > 0 {
					casts(t, n, inst, last, "late", api.ErrBallot)
				}
				isVote(t, n, inst, as(b, b, value))
				last = b
			}
		}
	}
}

func TestCastBehindPromises(t *testing.T) {
	n := paxos.New()
	promises(t, n, 7, 1<<32+5, as(1<<32+5, 0, ""), api.OK)
	casts(t, n, 7, 5, "x", api.ErrBallot)
	casts(t, n, 7, 1<<32+4, "x", api.ErrBallot)
	casts(t, n, 7, 0, "x", api.ErrArg)
	casts(t, n, 7, 1<<32+5, tooLong, api.ErrArg)
	isVote(t, n, 7, as(1<<32+5, 0, ""))
	casts(t, n, 7, 1<<32+5, "x", api.OK)
	casts(t, n, 7, 1<<32+5, "x", api.OK) // once more: told once more
	casts(t, n, 7, 1<<33, "y", api.OK)
	promises(t, n, 7, 1<<33, api.Vote{}, api.ErrBallot)
	isVote(t, n, 7, as(1<<33, 1<<33, "y"))
}

func TestCastOfWrong(t *testing.T) {
	n := gone(t, 3)
	promises(t, n, 5, 9, as(9, 0, ""), api.OK)
	before := look(n)
	for _, b := range append([]uint64{0}, ballots...) {
		for _, value := range []string{"", "x", "gone", longest, tooLong} {
			for _, inst := range wrongInstances {
				casts(t, n, inst, b, value, api.ErrArg)
			}
			for inst := 1; inst <= 3; inst++ {
				casts(t, n, inst, b, value, api.ErrGone)
			}
		}
		casts(t, n, 4, b, tooLong, api.ErrArg)
		casts(t, n, 5, b, tooLong, api.ErrArg) // ahead of ErrBallot
		casts(t, n, 5, b, strings.Repeat("ä", maxValue/2+1), api.ErrArg)
		if b < 9 && b > 0 {
			casts(t, n, 5, b, "x", api.ErrBallot)
		}
	}
	casts(t, n, 4, 0, "x", api.ErrArg)
	casts(t, n, 5, 0, "x", api.ErrArg)
	if !look(n).equal(before) {
		t.Error(look(n))
	}
}

// P9.1: Learn.

func TestLearn(t *testing.T) {
	for _, inst := range rightInstances {
		for _, value := range values {
			n := paxos.New()
			learns(t, n, inst, value, true, api.OK)
			isDecided(t, n, inst, value, true)
			learns(t, n, inst, value, false, api.OK)
			learns(t, n, inst, value+"z", false, wrongOr(value+"z", api.ErrOne))
			learns(t, n, inst, "other", false, api.ErrOne)
			if value != "" {
				learns(t, n, inst, "", false, api.ErrOne)
				learns(t, n, inst, value[1:]+"z", false, api.ErrOne)
			}
			isDecided(t, n, inst, value, true)
			isVote(t, n, inst, api.Vote{}) // who has learned has not voted
		}
	}
}

// wrongOr is ErrArg, if a value is too long, else e.
func wrongOr(value string, e api.Errno) api.Errno {
	if len(value) > maxValue {
		return api.ErrArg
	}
	return e
}

func TestLearnAndVotes(t *testing.T) {
	n := paxos.New()
	casts(t, n, 1, 7, "voted", api.OK)
	casts(t, n, 3, 7, "voted", api.OK)
	learns(t, n, 3, "learned", true, api.OK) // behind a gap
	learns(t, n, 1, "learned", true, api.OK)
	for _, inst := range []int{1, 3} { // the acceptor is as it was, and goes on
		isVote(t, n, inst, as(7, 7, "voted"))
		promises(t, n, inst, 8, as(8, 7, "voted"), api.OK)
		casts(t, n, inst, 8, "again", api.OK)
		isVote(t, n, inst, as(8, 8, "again"))
		isDecided(t, n, inst, "learned", true)
		learns(t, n, inst, "again", false, api.ErrOne)
		learns(t, n, inst, "learned", false, api.OK)
	}
	learns(t, n, 2, "between", true, api.OK)
	isVote(t, n, 3, as(8, 8, "again"))
	isPrefix(t, n, "learned", "between", "learned")
}

func TestLearnOfGone(t *testing.T) {
	n := gone(t, 3)
	for inst := 1; inst <= 3; inst++ {
		learns(t, n, inst, "kept", false, api.OK)
		learns(t, n, inst, "other", false, api.ErrOne)
		learns(t, n, inst, "gone", false, api.ErrOne) // what it voted for
		learns(t, n, inst, "", false, api.ErrOne)
		learns(t, n, inst, tooLong, false, api.ErrArg)
		promises(t, n, inst, 99, api.Vote{}, api.ErrGone)
	}
	learns(t, n, 4, "new", true, api.OK)
	isPrefix(t, n, "kept", "kept", "kept", "new")
}

func TestLearnOfWrong(t *testing.T) {
	n := gone(t, 2)
	learns(t, n, 5, "five", true, api.OK)
	before := look(n)
	for _, inst := range wrongInstances {
		for _, value := range []string{"", "x", longest, tooLong} {
			learns(t, n, inst, value, false, api.ErrArg)
		}
	}
	for _, inst := range []int{1, 3, 4, 5, 10000} { // too long is held ahead of what was learned
		learns(t, n, inst, tooLong, false, api.ErrArg)
		learns(t, n, inst, strings.Repeat("ä", maxValue/2+1), false, api.ErrArg)
	}
	learns(t, n, 5, "six", false, api.ErrOne)
	if !look(n).equal(before) {
		t.Error(look(n))
	}
}

// P9.2: Prefix, Decided, Vote.

func TestPrefix(t *testing.T) {
	n := paxos.New()
	learns(t, n, 2, "b", true, api.OK)
	learns(t, n, 4, "d", true, api.OK)
	learns(t, n, 5, "", true, api.OK)
	isPrefix(t, n)
	learns(t, n, 1, "", true, api.OK) // an empty value is a value
	isPrefix(t, n, "", "b")
	learns(t, n, 7, "g", true, api.OK)
	learns(t, n, 3, "c", true, api.OK)
	isPrefix(t, n, "", "b", "c", "d", "")
	learns(t, n, 6, "f", true, api.OK)
	isPrefix(t, n, "", "b", "c", "d", "", "f", "g")
	if got := paxos.New().Prefix(); len(got) != 0 {
		t.Error(got)
	}
}

// valueOf is a value of its own for each instance.
func valueOf(inst int) string {
	return strings.Repeat("n", inst%5) + string(binary.LittleEndian.AppendUint32(nil, uint32(inst)))
}

func TestPrefixOfAll(t *testing.T) {
	orders := map[string]func(at int) int{
		"up":   func(at int) int { return at },
		"down": func(at int) int { return maxInst + 1 - at },
		"odd":  func(at int) int { return (at*7919)%10007%maxInst + 1 }, // some twice
	}
	for name, order := range orders {
		n := paxos.New()
		have := map[int]bool{}
		for at := 1; at <= maxInst; at++ {
			inst := order(at)
			learns(t, n, inst, valueOf(inst), !have[inst], api.OK)
			have[inst] = true
		}
		for inst := 1; inst <= maxInst; inst++ {
			learns(t, n, inst, valueOf(inst), !have[inst], api.OK)
		}
		got := n.Prefix()
		if len(got) != maxInst {
			t.Fatalf("%s: %d", name, len(got))
		}
		for at, value := range got {
			if value != valueOf(at+1) {
				t.Errorf("%s: %d: %q", name, at+1, value)
			}
		}
		compacts(t, n, maxInst+1, api.ErrArg)
		compacts(t, n, maxInst, api.OK)
		promises(t, n, maxInst, 1, api.Vote{}, api.ErrGone)
		promises(t, n, maxInst+1, 1, api.Vote{}, api.ErrArg)
		isDecided(t, n, maxInst, valueOf(maxInst), true)
		isDecided(t, n, maxInst+1, "", false)
	}
}

func TestDecided(t *testing.T) {
	n := paxos.New()
	casts(t, n, 1, 3, "voted", api.OK)
	learns(t, n, 2, "b", true, api.OK)
	learns(t, n, 4, "", true, api.OK)
	isDecided(t, n, 1, "", false)
	isDecided(t, n, 2, "b", true) // behind a gap, too
	isDecided(t, n, 3, "", false)
	isDecided(t, n, 4, "", true) // an empty value is a value
	learns(t, n, 1, "a", true, api.OK)
	isDecided(t, n, 1, "a", true)
	isDecided(t, n, 2, "b", true)
	isDecided(t, n, 4, "", true)
	compacts(t, n, 2, api.OK)
	isDecided(t, n, 1, "a", true) // gone: but the values of the prefix are kept
	isDecided(t, n, 2, "b", true)
	isPrefix(t, n, "a", "b")
	for _, inst := range wrongInstances {
		isDecided(t, n, inst, "", false)
		isVote(t, n, inst, api.Vote{})
	}
}

// P9.2: Compact.

func TestCompact(t *testing.T) {
	n := paxos.New()
	compacts(t, n, 0, api.OK) // nothing
	compacts(t, n, 1, api.ErrArg)
	for inst := 1; inst <= 6; inst++ {
		casts(t, n, inst, uint64(inst), "v", api.OK)
	}
	for _, inst := range []int{1, 2, 3, 5, 6} {
		learns(t, n, inst, valueOf(inst), true, api.OK)
	}
	compacts(t, n, 0, api.OK)
	isVote(t, n, 1, as(1, 1, "v"))
	compacts(t, n, 4, api.ErrArg) // the prefix is 3 long
	compacts(t, n, 5, api.ErrArg)
	compacts(t, n, 2, api.OK)
	compacts(t, n, 2, api.OK) // as many are gone, not more
	compacts(t, n, 1, api.ErrGone)
	compacts(t, n, 0, api.ErrGone)
	for _, inst := range wrongInstances {
		if inst != 0 {
			compacts(t, n, inst, api.ErrArg) // of these more are gone too: ErrArg is first
		}
	}
	for inst := 1; inst <= 2; inst++ {
		isVote(t, n, inst, api.Vote{})
		promises(t, n, inst, 99, api.Vote{}, api.ErrGone)
		casts(t, n, inst, 99, "x", api.ErrGone)
	}
	for inst := 3; inst <= 6; inst++ { // of these nothing is gone
		isVote(t, n, inst, as(uint64(inst), uint64(inst), "v"))
	}
	promises(t, n, 3, 4, as(4, 3, "v"), api.OK)
	isPrefix(t, n, valueOf(1), valueOf(2), valueOf(3))
	learns(t, n, 4, valueOf(4), true, api.OK)
	isPrefix(t, n, valueOf(1), valueOf(2), valueOf(3), valueOf(4), valueOf(5), valueOf(6))
	compacts(t, n, 6, api.OK)
	compacts(t, n, 5, api.ErrGone)
	compacts(t, n, 7, api.ErrArg)
	for inst := 1; inst <= 6; inst++ {
		isVote(t, n, inst, api.Vote{})
		isDecided(t, n, inst, valueOf(inst), true)
	}
	promises(t, n, 7, 1, as(1, 0, ""), api.OK)
}

// P9.2: Replay.

func TestReplay(t *testing.T) {
	p, v, d := pRecord, vRecord, dRecord
	for _, c := range []struct {
		records []string
		want    api.Vote
	}{
		{[]string{p(7, 5)}, as(5, 0, "")},
		{[]string{p(7, 5), p(7, 9)}, as(9, 0, "")},
		{[]string{p(7, 9), p(7, 5)}, as(9, 0, "")}, // at least: it doesn't go back
		{[]string{p(7, 5), p(7, 5)}, as(5, 0, "")},
		{[]string{v(7, 5, "x")}, as(5, 5, "x")},
		{[]string{v(7, 5, "")}, as(5, 5, "")},
		{[]string{v(7, 5, longest)}, as(5, 5, longest)},
		{[]string{p(7, 9), v(7, 5, "x")}, as(9, 5, "x")}, // at least the acceptor's Ballot, though not its Promised
		{[]string{v(7, 5, "x"), p(7, 9)}, as(9, 5, "x")},
		{[]string{v(7, 5, "x"), v(7, 9, "y")}, as(9, 9, "y")},
		{[]string{v(7, 9, "y"), v(7, 5, "x")}, as(9, 9, "y")},
		{[]string{v(7, 5, "x"), v(7, 5, "y")}, as(5, 5, "y")}, // as great: the record's
		{[]string{v(7, 5, "x"), p(7, 9), v(7, 7, "y")}, as(9, 7, "y")},
		{[]string{v(7, 5, "x"), p(7, 9), v(7, 4, "y")}, as(9, 5, "x")},
		{[]string{v(7, 5, "x"), v(7, 5, "")}, as(5, 5, "")},
		{[]string{v(7, 1<<32, "x"), v(7, 1<<32-1, "y")}, as(1<<32, 1<<32, "x")},
		{[]string{v(7, 1<<32+1, "x"), v(7, 1<<33, "y")}, as(1<<33, 1<<33, "y")},
		{[]string{p(7, math.MaxUint64), v(7, 1, "x")}, as(math.MaxUint64, 1, "x")},
		{[]string{d(7, "x")}, api.Vote{}},
		{[]string{p(8, 5), v(6, 5, "x"), p(7+256, 5), v(1, 5, "x")}, api.Vote{}}, // others'
	} {
		n := paxos.New()
		for _, record := range c.records {
			replays(t, n, record, api.OK)
		}
		isVote(t, n, 7, c.want)
	}
}

func TestReplayOfEdges(t *testing.T) {
	for _, inst := range rightInstances {
		for _, b := range ballots {
			n := paxos.New()
			replays(t, n, pRecord(inst, b), api.OK)
			isVote(t, n, inst, as(b, 0, ""))
			replays(t, n, vRecord(inst, b, "x"), api.OK)
			isVote(t, n, inst, as(b, b, "x"))
		}
		for _, value := range values {
			n := paxos.New()
			replays(t, n, vRecord(inst, 3, value), api.OK)
			isVote(t, n, inst, as(3, 3, value))
			isDecided(t, n, inst, "", false)
			replays(t, n, dRecord(inst, value), api.OK)
			isDecided(t, n, inst, value, true)
			replays(t, n, dRecord(inst, value), api.OK)
			replays(t, n, dRecord(inst, "other"), api.ErrOne)
			isDecided(t, n, inst, value, true)
			isVote(t, n, inst, as(3, 3, value))
			learns(t, n, inst, value, false, api.OK)
			learns(t, n, inst, "other", false, api.ErrOne)
		}
	}
}

func TestReplayLetsThePrefixGrow(t *testing.T) {
	n := paxos.New()
	replays(t, n, dRecord(2, "b"), api.OK)
	isPrefix(t, n)
	replays(t, n, dRecord(1, ""), api.OK)
	isPrefix(t, n, "", "b")
	learns(t, n, 4, "d", true, api.OK)
	replays(t, n, dRecord(3, "c"), api.OK)
	isPrefix(t, n, "", "b", "c", "d")
	replays(t, n, dRecord(3, "x"), api.ErrOne)
	isPrefix(t, n, "", "b", "c", "d")
	compacts(t, n, 4, api.OK)
}

func TestReplayOfGone(t *testing.T) {
	n := gone(t, 3)
	before := look(n)
	for inst := 1; inst <= 3; inst++ {
		for _, b := range ballots {
			replays(t, n, pRecord(inst, b), api.OK)
			replays(t, n, vRecord(inst, b, "x"), api.OK)
		}
		replays(t, n, dRecord(inst, "kept"), api.OK)
		replays(t, n, dRecord(inst, "gone"), api.ErrOne)
		replays(t, n, dRecord(inst, ""), api.ErrOne)
		replays(t, n, pRecord(inst, 0), api.ErrArg) // gone or not
		replays(t, n, vRecord(inst, 0, "x"), api.ErrArg)
		replays(t, n, vRecord(inst, 1, tooLong), api.ErrArg)
		replays(t, n, dRecord(inst, tooLong), api.ErrArg)
		replays(t, n, pRecord(inst, 1)+"x", api.ErrArg)
		promises(t, n, inst, 99, api.Vote{}, api.ErrGone)
	}
	if !look(n).equal(before) {
		t.Error(look(n))
	}
	replays(t, n, pRecord(4, 7), api.OK)
	isVote(t, n, 4, as(7, 0, ""))
}

// wrongRecords are none.
func wrongRecords() []string {
	var l []string
	for _, inst := range []int{3, 9999} {
		whole := []string{pRecord(inst, 5), vRecord(inst, 5, ""), dRecord(inst, "")}
		for _, record := range whole { // cut, and of other kinds
			for at := range len(record) {
				l = append(l, record[:at], record[at+1:])
			}
			l = append(l, " "+record)
			for kind := range 256 {
				if !slices.Contains([]int{'p', 'v', 'd'}, kind) {
					l = append(l, string([]byte{byte(kind)})+record[1:])
				}
			}
		}
		l = append(l, pRecord(inst, 0), vRecord(inst, 0, ""), vRecord(inst, 0, "x"))
		l = append(l, vRecord(inst, 5, tooLong), dRecord(inst, tooLong), vRecord(inst, 5, tooLong+tooLong), dRecord(inst, tooLong+tooLong))
		l = append(l, vRecord(inst, 5, strings.Repeat("ä", maxValue/2+1)), dRecord(inst, strings.Repeat("ä", maxValue/2+1)))
		l = append(l, pRecord(inst, 5)+"x", pRecord(inst, 5)+"\x00", pRecord(inst, 5)+pRecord(inst, 5), pRecord(inst, 5)+longest)
	}
	for _, inst := range []int{0, 10001, 10002, 1 << 16, 1 << 24, 1<<31 - 1, 1 << 31, 1<<32 - 1, 1<<31 + 3} {
		l = append(l, pRecord(inst, 5), vRecord(inst, 5, "x"), dRecord(inst, "x"))
	}
	return l
}

func TestReplayOfWrong(t *testing.T) {
	n := gone(t, 2)
	casts(t, n, 3, 4, "x", api.OK)
	learns(t, n, 9999, "last", true, api.OK)
	before := look(n)
	for _, record := range wrongRecords() {
		replays(t, n, record, api.ErrArg)
	}
	if !look(n).equal(before) {
		t.Error(look(n))
	}
	replays(t, n, "", api.ErrArg)
}

// R4: nil objects, and R1: objects that no call gave.

func TestNil(t *testing.T) {
	var n *paxos.Node
	for _, inst := range append(wrongInstances, rightInstances...) {
		promises(t, n, inst, 0, api.Vote{}, api.ErrNil)
		promises(t, n, inst, 5, api.Vote{}, api.ErrNil)
		casts(t, n, inst, 0, "x", api.ErrNil)
		casts(t, n, inst, 5, "x", api.ErrNil)
		casts(t, n, inst, 5, tooLong, api.ErrNil)
		learns(t, n, inst, "x", false, api.ErrNil)
		learns(t, n, inst, tooLong, false, api.ErrNil)
		compacts(t, n, inst, api.ErrNil)
		isDecided(t, n, inst, "", false)
		isVote(t, n, inst, api.Vote{})
	}
	for _, record := range []string{"", "x", pRecord(1, 5), vRecord(1, 5, "x"), dRecord(1, "x"), pRecord(0, 0)} {
		replays(t, n, record, api.ErrNil)
	}
	isPrefix(t, n)
	if got := n.Prefix(); len(got) != 0 {
		t.Error(got)
	}
}

func TestObjectsOfNoCall(t *testing.T) {
	for _, work := range []func(n *paxos.Node){
		func(n *paxos.Node) { n.Promise(1, 5) },
		func(n *paxos.Node) { n.Cast(1, 5, "x") },
		func(n *paxos.Node) { n.Learn(1, "x") },
		func(n *paxos.Node) { n.Learn(2, "x") },
		func(n *paxos.Node) { n.Compact(0) },
		func(n *paxos.Node) { n.Compact(1) },
		func(n *paxos.Node) { n.Replay(pRecord(1, 5)) },
		func(n *paxos.Node) { n.Replay(vRecord(1, 5, "x")) },
		func(n *paxos.Node) { n.Replay(dRecord(1, "x")) },
	} {
		n := new(paxos.Node)
		look(n)
		work(n)
		look(n)
	}
}

// R3: what is answered is new memory.

// shared tells whether two texts share memory.
func shared(a, b string) bool {
	if a == "" || b == "" {
		return false
	}
	x, y := uintptr(unsafe.Pointer(unsafe.StringData(a))), uintptr(unsafe.Pointer(unsafe.StringData(b)))
	return x < y+uintptr(len(b)) && y < x+uintptr(len(a))
}

func TestNewMemory(t *testing.T) {
	n, m := paxos.New(), paxos.New()
	voted, learned := strings.Repeat("v", 7), strings.Repeat("l", 7)
	texts := []string{voted, learned}
	take := func(l ...string) { texts = append(texts, l...) }
	for inst := 1; inst <= 3; inst++ {
		v, _ := n.Cast(inst, 5, voted)
		p, pr, _ := n.Promise(inst, 6)
		d, _ := n.Learn(4-inst, learned)
		take(v, p.Value, pr, d)
		for _, record := range []string{v, pr, d} {
			replays(t, m, record, api.OK)
		}
	}
	for range 2 {
		for _, node := range []*paxos.Node{n, m} {
			take(node.Prefix()...)
			for inst := 1; inst <= 3; inst++ {
				decided, _ := node.Decided(inst)
				take(decided, node.Vote(inst).Value)
			}
		}
	}
	if len(texts) != 2+4*3+4*9 {
		t.Fatal(len(texts))
	}
	for at, text := range texts {
		if text == "" {
			t.Errorf("%d is empty", at)
		}
		for other := range at {
			if shared(text, texts[other]) {
				t.Errorf("%d and %d share memory: %q, %q", at, other, text, texts[other])
			}
		}
	}
}

// Nothing of what is handed in is kept: it may be written over.

func TestNothingIsKept(t *testing.T) {
	n := paxos.New()
	bytes := []byte(vRecord(1, 5, "voted") + dRecord(1, "first") + dRecord(3, "third") + "voted" + "second")
	text := unsafe.String(unsafe.SliceData(bytes), len(bytes))
	v, first, third := text[:18], text[18:28], text[28:38]
	for _, record := range []string{v, first, third} {
		replays(t, n, record, api.OK)
	}
	casts(t, n, 2, 5, text[38:43], api.OK)
	learns(t, n, 2, text[43:], true, api.OK)
	before := look(n)
	want := seen{slices.Clone(before.prefix), slices.Clone(before.votes), slices.Clone(before.decided), before.known}
	for at := range want.votes {
		want.votes[at].Value = strings.Clone(want.votes[at].Value)
	}
	for at := range bytes {
		bytes[at] = '!'
	}
	if got := look(n); !got.equal(want) {
		t.Errorf("%v; want %v", got, want)
	}
	isPrefix(t, n, "first", "second", "third")
	isVote(t, n, 1, as(5, 5, "voted"))
	isVote(t, n, 2, as(5, 5, "voted"))
}

func TestThePrefixIsAsItWas(t *testing.T) {
	n := paxos.New()
	learns(t, n, 1, "a", true, api.OK)
	learns(t, n, 2, "b", true, api.OK)
	got := n.Prefix()
	_ = append(got, "spare")
	got[0] = "x"
	isPrefix(t, n, "a", "b")
	learns(t, n, 3, "c", true, api.OK)
	if got[:cap(got)][0] != "x" || got[1] != "b" {
		t.Error(got)
	}
	isPrefix(t, n, "a", "b", "c")
}
