package journal_test

import (
	"hash/crc32"
	"math"
	"math/rand"
	"slices"
	"strings"
	"testing"
	"unsafe"

	"rostrum/api"
	"rostrum/crc"
	"rostrum/journal"
)

const bare = 9 // the bytes of a record without data

// word is a number in four bytes, the least first.
func word(n uint32) string {
	return string([]byte{byte(n), byte(n >> 8), byte(n >> 16), byte(n >> 24)})
}

// sealed is s with the sum of Go's own library behind it.
func sealed(s string) string {
	return s + word(crc32.ChecksumIEEE([]byte(s)))
}

// made is a record's bytes by the chapter's words, whatever its mark and its size say.
func made(mark byte, size uint32, data string) string {
	return sealed(string([]byte{mark}) + word(size) + data)
}

// right is a right record's bytes.
func right(data string) string {
	return made(52, uint32(len(data)), data)
}

// readSlowly reads without looking at a head: at each place it tries records of all lengths.
func readSlowly(s string) ([]string, int) {
	var all []string
	good := 0
places:
	for {
		for size := 0; size <= api.MaxRecord && good+bare+size <= len(s); size++ {
			data := s[good+5 : good+5+size]
			if s[good] == 52 && s[good:good+bare+size] == right(data) {
				all = append(all, data)
				good += bare + size
				continue places
			}
		}
		return all, good
	}
}

// sample is data of the lengths at which a record's bytes change their form, and of bytes that look like heads, or are records.
func sample() []string {
	all := []string{"", "a", "4", "44444", "\x00", "\xff\x00", right(""), right("a"), right("a")[:9], "r\u00e9cord \u4e2d"}
	for _, size := range []int{2, 255, 256, 257, 511, 512, 4095, 4096} {
		all = append(all, strings.Repeat("\x004\xff", size)[:size])
	}
	return all
}

// tooLong is data that no record takes.
func tooLong() []string {
	return []string{strings.Repeat("a", 4097), strings.Repeat("\x00", 4098), strings.Repeat("4", 65536), strings.Repeat("b", 1<<20+1)}
}

// joined is the bytes of right records.
func joined(data ...string) string {
	s := ""
	for _, d := range data {
		s += right(d)
	}
	return s
}

// filled is whole, and has so many bytes.
func filled(t *testing.T, size int) string {
	t.Helper()
	var s strings.Builder
	data := 4096
	for size-s.Len() > 0 {
		if rest := size - s.Len(); rest < 2*(bare+4096) {
			// The last two records part what is left, so that none of them is too short.
			data = min(rest-bare, 4096)
			if over := rest - bare - data; over > 0 && over < bare {
				data -= bare
			}
		}
		if data < 0 {
			t.Fatal("no records have so many bytes", size)
		}
		s.WriteString(right(strings.Repeat("f", data)))
	}
	if s.Len() != size || !journal.Whole(s.String()) {
		t.Fatal("filled", s.Len(), size)
	}
	return s.String()
}

// checkRead holds what is told of bytes against what is wanted, by all calls that read.
func checkRead(t *testing.T, s string, want []string, good int) {
	t.Helper()
	got, n := journal.Read(s)
	if !slices.Equal(got, want) || n != good {
		t.Fatalf("Read(%.40q): %.40q, %d; want %.40q, %d", s, got, n, want, good)
	}
	if r := journal.Repair(s); r != s[:good] {
		t.Fatalf("Repair(%.40q): %.40q; want %d bytes", s, r, good)
	}
	if w := journal.Whole(s); w != (good == len(s)) {
		t.Fatalf("Whole(%.40q): %v", s, w)
	}
}

// P3.1: Record.

func TestRecord(t *testing.T) {
	if r, e := journal.Record("a"); !strings.HasPrefix(r, "4\x01\x00\x00\x00a") || len(r) != 10 || e != api.OK {
		t.Errorf("the chapter's example: %q, %d", r, e)
	}
	for _, data := range sample() {
		if r, e := journal.Record(data); r != right(data) || e != api.OK {
			t.Errorf("Record(%.40q): %.40q, %d", data, r, e)
		}
	}
}

func TestRecordOfAllLengths(t *testing.T) {
	all := strings.Repeat("\x01\x80z", api.MaxRecord)
	for size := 0; size <= api.MaxRecord; size++ {
		data := all[:size]
		r, e := journal.Record(data)
		if r != right(data) || e != api.OK {
			t.Fatal(size, len(r), e)
		}
		checkRead(t, r, []string{data}, len(r))
	}
}

func TestRecordTooLong(t *testing.T) {
	for _, data := range tooLong() {
		if r, e := journal.Record(data); r != "" || e != api.ErrFull {
			t.Errorf("%d bytes: %.40q, %d", len(data), r, e)
		}
	}
}

// P3.1: Read, Whole, Repair.

func TestReadOfNothing(t *testing.T) {
	checkRead(t, "", nil, 0)
}

func TestReadInOrder(t *testing.T) {
	all := sample()
	checkRead(t, joined(all...), all, len(joined(all...)))
	slices.Reverse(all)
	checkRead(t, joined(all...), all, len(joined(all...)))
	checkRead(t, joined("a", "a", "a"), []string{"a", "a", "a"}, 30)
	checkRead(t, joined("", "", ""), []string{"", "", ""}, 27)
}

func TestReadStopsAtWhatIsTorn(t *testing.T) {
	ahead := joined("alpha", "")
	want := []string{"alpha", ""}
	torn := []string{
		"4", "44444444444444", "x", "\x00", strings.Repeat("\x00", 100), strings.Repeat("\xff", 100),
		// A record's right sum does not help a wrong mark, nor a wrong size.
		made(51, 1, "b"), made(53, 1, "b"), made(0, 1, "b"), made(52+128, 1, "b"), made(72, 1, "b"),
		made(52, 0, "b"), made(52, 2, "b"), made(52, 5, "b"), made(52, 256, "b"), made(52, 1<<24, "b"), made(52, 1+1<<31, "b"), made(52, 1+1<<16, "b"),
		made(52, math.MaxUint32, ""), made(52, math.MaxUint32, "b"), made(52, math.MaxUint32-8, ""), made(52, math.MaxUint32-3, "b"), made(52, math.MaxInt32, "b"),
		// Nor are more bytes than a record may have.
		made(52, 4097, strings.Repeat("b", 4097)), made(52, 65536, strings.Repeat("b", 65536)),
		// A head's bytes in another order.
		made(52, 1<<24, "b"), made(52, 1<<16, strings.Repeat("b", 256)),
		// The sum of what is ahead of the record, too; of the data alone; in another order; none.
		right("b")[:6] + sealed(ahead + right("b")[:6])[len(ahead)+6:],
		right("b")[:6] + sealed("b")[1:],
		right("b")[:6] + reversed(right("b")[6:]),
		right("b")[:6] + "\x00\x00\x00\x00",
		right("b")[:6] + "\xff\xff\xff\xff",
		right("b")[1:], right("b")[5:], "x" + right("b"), "\x00" + right("b"),
	}
	for _, tail := range torn {
		checkRead(t, tail, nil, 0)
		checkRead(t, ahead+tail, want, len(ahead))
		// What is behind what is torn is not read, be it right or not.
		checkRead(t, tail+right("behind"), nil, 0)
		checkRead(t, ahead+tail+right("behind")+right(""), want, len(ahead))
	}
}

// reversed is s with its bytes turned round.
func reversed(s string) string {
	b := []byte(s)
	slices.Reverse(b)
	return string(b)
}

func TestReadAsSlowly(t *testing.T) {
	random := rand.New(rand.NewSource(3))
	for range 3000 {
		var s []byte
		for range random.Intn(5) {
			data := make([]byte, random.Intn(12))
			for k := range data {
				data[k] = "4\x00\x01\xff"[random.Intn(4)]
			}
			s = append(s, right(string(data))...)
		}
		for range random.Intn(3) {
			at := random.Intn(len(s) + 1)
			switch random.Intn(4) {
			case 0:
				s = s[:at]
			case 1:
				s = slices.Insert(s, at, byte(random.Intn(256)))
			case 2:
				s = slices.Delete(s, at, min(at+1, len(s)))
			case 3:
				if at < len(s) {
					s[at] ^= 1 << random.Intn(8)
				}
			}
		}
		want, good := readSlowly(string(s))
		checkRead(t, string(s), want, good)
	}
}

// A journal's limit is not one of what is read.
func TestReadMoreThanAJournal(t *testing.T) {
	data := strings.Repeat("m", 4096)
	s := strings.Repeat(right(data), 300)
	if len(s) <= api.MaxJournal {
		t.Fatal(len(s))
	}
	got, good := journal.Read(s + "4")
	if len(got) != 300 || got[299] != data || good != len(s) || !journal.Whole(s) || journal.Repair(s+"4") != s {
		t.Error(len(got), good)
	}
}

// P3.2: Append.

func TestAppend(t *testing.T) {
	heads := []string{"", right(""), right("a"), joined("alpha", "", "4")}
	for _, s := range heads {
		for _, data := range sample() {
			r := right(data)
			whole := len(r)
			for keep, kept := range map[int]int{
				math.MinInt: 0, -4096: 0, -1: 0, 0: 0, 1: 1, 4: 4, 5: 5, 8: 8, 9: 9,
				whole - 1: whole - 1, whole: whole, whole + 1: whole, 2 * whole: whole, 1 << 32: whole, 1<<32 + 1: whole, math.MaxInt: whole,
			} {
				got, e := journal.Append(s, data, keep)
				if got != s+r[:kept] || e != api.OK {
					t.Fatalf("Append(%q, %.40q, %d): %.40q, %d", s, data, keep, got, e)
				}
			}
		}
	}
}

func TestAppendToTorn(t *testing.T) {
	a := right("alpha")
	for _, s := range []string{"4", "x", "\x00", a[:1], a[1:], a[:len(a)-1], a + "4", a + a[:len(a)-1], a + "x" + a, made(52, 4097, strings.Repeat("b", 4097)), filled(t, 1<<20) + "4"} {
		// Torn is told ahead of full.
		for _, data := range append(tooLong(), "", "b", strings.Repeat("c", 4096)) {
			for _, keep := range []int{-1, 0, 3, math.MaxInt} {
				if got, e := journal.Append(s, data, keep); got != "" || e != api.ErrTorn {
					t.Fatalf("Append(%.40q, %.40q, %d): %.40q, %d", s, data, keep, got, e)
				}
			}
		}
	}
}

func TestAppendTooLong(t *testing.T) {
	for _, s := range []string{"", right("alpha")} {
		for _, data := range tooLong() {
			for _, keep := range []int{math.MinInt, -1, 0, 1, math.MaxInt} {
				if got, e := journal.Append(s, data, keep); got != "" || e != api.ErrFull {
					t.Errorf("%d, %d bytes, %d: %.40q, %d", len(s), len(data), keep, got, e)
				}
			}
		}
	}
}

func TestAppendToFull(t *testing.T) {
	for _, size := range []int{0, 1, 100, 4096} {
		data := strings.Repeat("d", size)
		fits := filled(t, api.MaxJournal-bare-size)
		for _, keep := range []int{-1, 0, 3, bare + size, math.MaxInt} {
			kept := min(max(keep, 0), bare+size)
			if got, e := journal.Append(fits, data, keep); got != fits+right(data)[:kept] || e != api.OK {
				t.Error("to the limit", size, keep, len(got), e)
			}
		}
		for _, more := range []int{1, 2, bare, bare + size} {
			s := filled(t, len(fits)+more)
			// Whatever is kept: it is the whole record that must have room.
			for _, keep := range []int{-1, 0, 3, math.MaxInt} {
				if got, e := journal.Append(s, data, keep); got != "" || e != api.ErrFull {
					t.Error("past the limit", size, more, keep, len(got), e)
				}
			}
		}
	}
	if got, e := journal.Append(filled(t, 2*api.MaxJournal), "", 0); got != "" || e != api.ErrFull {
		t.Error("far past the limit", len(got), e)
	}
}

// P3.3: what is read is what was written.

func TestReadWhatWasAppended(t *testing.T) {
	var want []string
	s := ""
	for _, data := range sample() {
		var e api.Errno
		if s, e = journal.Append(s, data, math.MaxInt); e != api.OK {
			t.Fatal(e)
		}
		want = append(want, data)
		checkRead(t, s, want, len(s))
	}
}

func TestReadBeginnings(t *testing.T) {
	data := []string{"alpha", "", right("in"), "4", strings.Repeat("g", 300), "", ""}
	s := joined(data...)
	done, good := 0, 0
	for size := 0; size <= len(s); size++ {
		if done < len(data) && size == good+bare+len(data[done]) {
			good = size
			done++
		}
		checkRead(t, s[:size], data[:done], good)
	}
	if done != len(data) {
		t.Error(done)
	}
}

func TestReadWhatWasCut(t *testing.T) {
	s := joined("alpha", "")
	for _, data := range []string{"", "a", "4", right("beta"), strings.Repeat("\x00", 300)} {
		whole := bare + len(data)
		for keep := -1; keep <= whole+1; keep++ {
			got, e := journal.Append(s, data, keep)
			if e != api.OK {
				t.Fatal(keep, e)
			}
			if keep < whole {
				checkRead(t, got, []string{"alpha", ""}, len(s))
			} else {
				checkRead(t, got, []string{"alpha", "", data}, len(got))
			}
			// Repaired, it takes the next one.
			got, e = journal.Append(journal.Repair(got), "next", math.MaxInt)
			held, _ := journal.Read(got)
			if e != api.OK || !journal.Whole(got) || held[len(held)-1] != "next" {
				t.Fatal("behind a repair", keep, held, e)
			}
		}
	}
}

func TestReadWhatWasChanged(t *testing.T) {
	ahead, middle, behind := right("alpha"), right("be\x00ta"), right("gamma")
	s := ahead + middle + behind
	for bit := range 8 * len(middle) {
		for _, mask := range []uint32{1, 3, 0x80000001, math.MaxUint32, 0x0badcafe} {
			at := 8*len(ahead) + bit
			changed, e := crc.Change(s, at, mask)
			if e != api.OK {
				t.Fatal(e)
			}
			if changed[len(ahead):len(ahead)+len(middle)] == middle {
				// The mask's set bits lie behind the record.
				continue
			}
			checkRead(t, changed, []string{"alpha"}, len(ahead))
		}
	}
}

// R3, R4: answers are new memory, and hang on their arguments alone.

// shares tells whether two texts have a byte in common memory.
func shares(a string, b string) bool {
	if len(a) == 0 || len(b) == 0 {
		return false
	}
	x, y := uintptr(unsafe.Pointer(unsafe.StringData(a))), uintptr(unsafe.Pointer(unsafe.StringData(b)))
	return x < y+uintptr(len(b)) && y < x+uintptr(len(a))
}

func TestAnswersAreNewMemory(t *testing.T) {
	s := joined("alpha", "b", "alpha", "")
	for _, keep := range []int{-1, 0, 1, math.MaxInt} {
		if got, _ := journal.Append(s, "c", keep); shares(got, s) {
			t.Error("Append", keep)
		}
		data := strings.Repeat("d", 20)
		if got, _ := journal.Append("", data, keep); shares(got, data) {
			t.Error("Append to nothing", keep)
		}
	}
	for _, torn := range []string{"", "4"} {
		if from := s + torn; shares(journal.Repair(from), from) {
			t.Errorf("Repair %q", torn)
		}
	}
	first, _ := journal.Read(s)
	second, _ := journal.Read(s)
	for i, a := range first {
		if shares(a, s) {
			t.Error("Read", i)
		}
		for k, b := range second {
			if shares(a, b) || k != i && shares(a, first[k]) {
				t.Error("Read", i, k)
			}
		}
	}
	if cap(first) > 0 {
		first = first[:cap(first)]
		first[len(first)-1] = "written"
	}
	if again, _ := journal.Read(s); !slices.Equal(again, []string{"alpha", "b", "alpha", ""}) || !slices.Equal(second, again) {
		t.Error("Read again", again)
	}
}
