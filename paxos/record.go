package paxos

import (
	"strings"

	"rostrum/api"
	"rostrum/crc"
)

// The kinds of records: each is a record's first byte.
const (
	promising = 'p'
	voting    = 'v'
	learning  = 'd'
)

const (
	kindSize   = 1
	numberSize = 4
	wordBits   = 32 // a ballot is two numbers of so many bits, the lower ones first
	mostWords  = 3  // an instance, and a ballot's two
)

// told is what a record tells.
type told struct {
	kind   byte
	inst   int
	ballot uint64 // 0, if the kind has none
	value  string
}

func promiseRecord(inst int, ballot uint64) string {
	return write(promising, "", uint32(inst), uint32(ballot), uint32(ballot>>wordBits))
}

func voteRecord(inst int, ballot uint64, value string) string {
	return write(voting, value, uint32(inst), uint32(ballot), uint32(ballot>>wordBits))
}

func learnRecord(inst int, value string) string {
	return write(learning, value, uint32(inst))
}

// write is a record: its kind, its numbers, and its value behind them.
func write(kind byte, value string, numbers ...uint32) string {
	var record strings.Builder
	record.WriteByte(kind)
	for _, number := range numbers {
		record.WriteString(crc.Put(number))
	}
	record.WriteString(value)
	return record.String()
}

// read is what a record tells, if it is one.
func read(record string) (told, bool) {
	if record == "" {
		return told{}, false
	}
	kind := record[0]
	count := words(kind)
	head := kindSize + count*numberSize
	if count == 0 || len(record) < head {
		return told{}, false
	}
	var numbers [mostWords]uint32
	for at := range count {
		// Four bytes always have a number.
		numbers[at], _ = crc.Get(record[kindSize+at*numberSize:][:numberSize])
	}
	t := told{
		kind:   kind,
		inst:   int(numbers[0]),
		ballot: uint64(numbers[1]) | uint64(numbers[2])<<wordBits,
		value:  record[head:],
	}
	return t, t.right()
}

// words is how many numbers a kind of record has; 0: there is no such kind.
func words(kind byte) int {
	switch kind {
	case promising, voting:
		return mostWords
	case learning:
		return 1
	}
	return 0
}

// right tells whether what a record tells can be done.
func (t told) right() bool {
	switch {
	case !isInstance(t.inst), len(t.value) > api.MaxValue:
		return false
	case t.kind == learning:
		return true
	case t.kind == promising && t.value != "":
		return false
	}
	return t.ballot >= 1
}
