package paxos_test

import (
	"encoding/binary"
	"math/rand"
	"runtime"
	"slices"
	"strings"
	"testing"

	"rostrum/api"
	"rostrum/paxos"
)

// Whatever is called, in whatever order: as the chapter's words alone tell it.

// plain is a node by the chapter's words: all instances stand side by side, the prefix is looked for each time.
type plain struct {
	votes   [maxInst + 1]api.Vote
	learned [maxInst + 1]bool
	values  [maxInst + 1]string
	gone    int
}

func (p *plain) prefix() []string {
	var l []string
	for inst := 1; inst <= maxInst && p.learned[inst]; inst++ {
		l = append(l, p.values[inst])
	}
	return l
}

func (p *plain) promise(inst int, b uint64) (api.Vote, string, api.Errno) {
	switch {
	case inst < 1 || inst > maxInst:
		return api.Vote{}, "", api.ErrArg
	case inst <= p.gone:
		return api.Vote{}, "", api.ErrGone
	case b == 0:
		return api.Vote{}, "", api.ErrArg
	case b <= p.votes[inst].Promised:
		return api.Vote{}, "", api.ErrBallot
	}
	p.votes[inst].Promised = b
	return p.votes[inst], pRecord(inst, b), api.OK
}

func (p *plain) cast(inst int, b uint64, value string) (string, api.Errno) {
	switch {
	case inst < 1 || inst > maxInst:
		return "", api.ErrArg
	case inst <= p.gone:
		return "", api.ErrGone
	case b == 0 || len(value) > maxValue:
		return "", api.ErrArg
	case b < p.votes[inst].Promised:
		return "", api.ErrBallot
	}
	p.votes[inst] = as(b, b, value)
	return vRecord(inst, b, value), api.OK
}

func (p *plain) learn(inst int, value string) (string, api.Errno) {
	switch {
	case inst < 1 || inst > maxInst || len(value) > maxValue:
		return "", api.ErrArg
	case p.learned[inst] && p.values[inst] != value:
		return "", api.ErrOne
	case p.learned[inst]:
		return "", api.OK
	}
	p.learned[inst], p.values[inst] = true, value
	return dRecord(inst, value), api.OK
}

func (p *plain) compact(inst int) api.Errno {
	switch {
	case inst < 0 || inst > len(p.prefix()):
		return api.ErrArg
	case inst < p.gone:
		return api.ErrGone
	}
	for at := 1; at <= inst; at++ {
		p.votes[at] = api.Vote{}
	}
	p.gone = inst
	return api.OK
}

func (p *plain) replay(record string) api.Errno {
	if len(record) < 5 {
		return api.ErrArg
	}
	number, rest := binary.LittleEndian.Uint32([]byte(record[1:5])), record[5:]
	if number < 1 || number > maxInst {
		return api.ErrArg
	}
	inst := int(number)
	if record[0] == 'd' {
		_, e := p.learn(inst, rest)
		return e
	}
	if record[0] != 'p' && record[0] != 'v' || len(rest) < 8 {
		return api.ErrArg
	}
	b, value := binary.LittleEndian.Uint64([]byte(rest[:8])), rest[8:]
	switch {
	case b == 0, len(value) > maxValue, record[0] == 'p' && value != "":
		return api.ErrArg
	case inst <= p.gone:
		return api.OK
	}
	v := &p.votes[inst]
	v.Promised = max(v.Promised, b)
	if record[0] == 'v' && b >= v.Ballot {
		v.Ballot, v.Value = b, value
	}
	return api.OK
}

// run is a node and its plain one.
type run struct {
	t    *testing.T
	seed int64
	r    *rand.Rand
	n    *paxos.Node
	p    *plain
	met  map[answer]int
}

// answer is what a call may answer: it is counted how often it does.
type answer struct {
	call  string
	errno api.Errno
}

func (u *run) inst() int {
	switch u.r.Intn(12) {
	case 0:
		return wrongInstances[u.r.Intn(len(wrongInstances))]
	case 1:
		return maxInst - u.r.Intn(3)
	case 2:
		return len(u.p.prefix()) + 1 // so that the prefix grows
	}
	return 1 + u.r.Intn(12)
}

func (u *run) ballot() uint64 {
	if u.r.Intn(6) == 0 {
		return append(ballots, 0)[u.r.Intn(len(ballots)+1)]
	}
	return uint64(u.r.Intn(40)) << (u.r.Intn(2) * 30)
}

func (u *run) value() string {
	if u.r.Intn(20) == 0 {
		return append(values, tooLong)[u.r.Intn(len(values)+1)]
	}
	return strings.Repeat("w", u.r.Intn(3))
}

func (u *run) record() string {
	var record string
	switch u.r.Intn(3) {
	case 0:
		record = pRecord(u.inst(), u.ballot())
	case 1:
		record = vRecord(u.inst(), u.ballot(), u.value())
	case 2:
		record = dRecord(u.inst(), u.value())
	}
	if u.r.Intn(10) == 0 { // hurt
		b := []byte(record)
		b[u.r.Intn(len(b))] ^= 1 << u.r.Intn(8)
		record = string(b[:u.r.Intn(len(b)+1)])
	}
	return record
}

// same holds what both have answered.
func (u *run) same(call string, ok bool, e, wantE api.Errno) {
	if !ok || e != wantE {
		u.t.Fatalf("seed %d: %s: %d; want %d", u.seed, call, e, wantE)
	}
	u.met[answer{call, e}]++
}

func (u *run) step() {
	inst, b, value := u.inst(), u.ballot(), u.value()
	switch u.r.Intn(6) {
	case 0:
		v, r, e := u.n.Promise(inst, b)
		wantV, wantR, wantE := u.p.promise(inst, b)
		u.same("promise", v == wantV && r == wantR, e, wantE)
	case 1:
		r, e := u.n.Cast(inst, b, value)
		want, wantE := u.p.cast(inst, b, value)
		u.same("cast", r == want, e, wantE)
	case 2:
		r, e := u.n.Learn(inst, value)
		want, wantE := u.p.learn(inst, value)
		u.same("learn", r == want, e, wantE)
	case 3:
		if u.r.Intn(2) == 0 { // not too often, else all is gone
			count := u.r.Intn(len(u.p.prefix()) + 2)
			u.same("compact", true, u.n.Compact(count), u.p.compact(count))
		} else if u.r.Intn(9) == 0 {
			u.same("compact", true, u.n.Compact(inst), u.p.compact(inst))
		}
	default:
		record := u.record()
		u.same("replay", true, u.n.Replay(record), u.p.replay(record))
	}
}

// holds holds what can be told of both.
func (u *run) holds() {
	if got, want := u.n.Prefix(), u.p.prefix(); !slices.Equal(got, want) {
		u.t.Fatalf("seed %d: Prefix: %.80q; want %.80q", u.seed, got, want)
	}
	for _, inst := range []int{1, 2, 3, 4, 5, 6, 7, 8, 9, 10, 11, 12, 13, 14, 15, 16, 256, maxInst - 2, maxInst - 1, maxInst} {
		if got := u.n.Vote(inst); got != u.p.votes[inst] {
			u.t.Fatalf("seed %d: Vote(%d): %.40v; want %.40v", u.seed, inst, got, u.p.votes[inst])
		}
		if got, ok := u.n.Decided(inst); got != u.p.values[inst] || ok != u.p.learned[inst] {
			u.t.Fatalf("seed %d: Decided(%d): %.40q, %v; want %.40q, %v", u.seed, inst, got, ok, u.p.values[inst], u.p.learned[inst])
		}
	}
}

func TestAsPlain(t *testing.T) {
	met := map[answer]int{}
	for seed := range int64(400) {
		u := &run{t: t, seed: seed, r: rand.New(rand.NewSource(seed)), n: paxos.New(), p: &plain{}, met: met}
		for range 200 {
			u.step()
			u.holds()
		}
	}
	for call, errors := range map[string][]api.Errno{
		"promise": {api.OK, api.ErrArg, api.ErrGone, api.ErrBallot},
		"cast":    {api.OK, api.ErrArg, api.ErrGone, api.ErrBallot},
		"learn":   {api.OK, api.ErrArg, api.ErrOne},
		"compact": {api.OK, api.ErrArg, api.ErrGone},
		"replay":  {api.OK, api.ErrArg, api.ErrOne},
	} {
		for _, e := range errors {
			if met[answer{call, e}] < 50 {
				t.Errorf("%s: %d: %d times", call, e, met[answer{call, e}])
			}
		}
	}
}

// held is how many bytes the program holds.
func held() uint64 {
	var m runtime.MemStats
	runtime.GC()
	runtime.ReadMemStats(&m)
	return m.HeapAlloc
}

// Of the votes of what is gone nothing is kept.

func TestGoneVotesTakeNoRoom(t *testing.T) {
	n, before := paxos.New(), held()
	for inst := 1; inst <= maxInst; inst++ {
		n.Cast(inst, 5, longest)
		n.Learn(inst, "x")
	}
	if full := held() - before; full < maxInst*maxValue {
		t.Errorf("%d bytes hold all votes", full)
	}
	compacts(t, n, maxInst, api.OK)
	if left := held(); left > before+maxInst*maxValue/4 {
		t.Errorf("%d bytes are still held", left-before)
	}
	if len(n.Prefix()) != maxInst {
		t.Error(len(n.Prefix()))
	}
}
