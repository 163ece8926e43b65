package link

import (
	"math"
	"slices"
	"testing"

	"rostrum/api"
)

// The tests of this file set a link's numbers, since so many calls as come near the last ones take too long.

// P6.1: numbers do not come round.
func TestLastNumber(t *testing.T) {
	l, e := New(1, 2, 2, 4, 7)
	if e != api.OK {
		t.Fatal(e)
	}
	l.next = math.MaxUint32 - 2
	for _, s := range []string{"x", "y"} {
		if e := l.Send(s); e != api.OK {
			t.Fatal(s, e)
		}
	}
	holdsNumbers := func(numbers ...uint32) {
		t.Helper()
		var got []uint32
		for _, f := range l.Out() {
			got = append(got, f.Seq)
		}
		marks := []uint32{math.MaxUint32, uint32(len(numbers)), 0, 1}
		if !slices.Equal(got, numbers) || !slices.Equal(l.Marks(), marks) {
			t.Fatal(got, l.Marks())
		}
	}
	ack := api.Frame{Kind: api.KindAck, From: 2, To: 1, Life: 7}
	for _, step := range []struct {
		ack  uint32
		left []uint32
	}{
		{math.MaxUint32, []uint32{math.MaxUint32 - 2, math.MaxUint32 - 1}},
		{math.MaxUint32 - 2, []uint32{math.MaxUint32 - 1}},
		{math.MaxUint32 - 1, nil},
	} {
		ack.Ack = step.ack
		if _, _, e := l.Receive(ack); e != api.OK {
			t.Fatal(e)
		}
		if e := l.Send("z"); e != api.ErrFull {
			t.Fatal(e)
		}
		holdsNumbers(step.left...)
	}
}

// P6.2: nor does the number that is waited for.
func TestLastThatIsWaitedFor(t *testing.T) {
	l, e := New(1, 2, 2, 4, 7)
	if e != api.OK {
		t.Fatal(e)
	}
	l.waits = math.MaxUint32 - 1
	f := api.Frame{Kind: api.KindData, From: 2, To: 1, Seq: math.MaxUint32 - 1, Data: "x"}
	for _, want := range [][]string{{"x"}, nil} {
		came, back, e := l.Receive(f)
		if e != api.OK || !slices.Equal(came, want) || len(back) != 1 || back[0].Ack != math.MaxUint32-1 {
			t.Fatal(came, back, e)
		}
		f.Seq = math.MaxUint32
	}
	if marks := l.Marks(); !slices.Equal(marks, []uint32{1, 0, 0, math.MaxUint32}) {
		t.Error(marks)
	}
}
