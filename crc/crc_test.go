package crc_test

import (
	"hash/crc32"
	"math"
	"strings"
	"testing"
	"unsafe"

	"rostrum/api"
	"rostrum/crc"
)

// numbers are many of 32 bits, always the same: edges, single bits, and some spread out.
func numbers() []uint32 {
	out := []uint32{0, 1, 255, 256, 0x01020304, 0x7fffffff, 0xfffffffe, math.MaxUint32, 0xedb88320}
	for k := range 32 {
		out = append(out, 1<<k)
	}
	n := uint32(1)
	for range 60 {
		n = n*1664525 + 1013904223
		out = append(out, n)
	}
	return out
}

// texts are bytes of several lengths, those that are no text, too.
func texts() []string {
	out := []string{"", "\x00", "\xff", "a", "abc", "\x00\x00\x00\x00", "\xff\xff\xff\xff", "123456789", "Übergröße", "\xc3\x28\x80\x00"}
	var all strings.Builder
	for k := range 300 {
		all.WriteByte(byte(k * 7))
		if k%37 == 0 {
			out = append(out, all.String())
		}
	}
	return out
}

// changed is a change as the document says it: bit by bit, as far as there are any.
func changed(s string, bit int, mask uint32) string {
	b := []byte(s)
	for k := range 32 {
		if at := bit + k; at < 8*len(b) && mask>>k&1 == 1 {
			b[at/8] ^= 1 << (at % 8)
		}
	}
	return string(b)
}

func shares(a, b string) bool {
	return len(a) > 0 && len(b) > 0 && unsafe.StringData(a) == unsafe.StringData(b)
}

// P1.1

func TestStep(t *testing.T) {
	if crc.Step(0, 0) != 0 || crc.Step(0, 1) != 0x77073096 || crc.Step(0, 255) != 0x2d02ef8d || crc.Step(1, 1) != 0 {
		t.Error("the known ones")
	}
	for _, s := range numbers() {
		for b := range 256 {
			want := s ^ uint32(b)
			for range 8 {
				if want%2 == 1 {
					want = want>>1 ^ 0xedb88320
				} else {
					want >>= 1
				}
			}
			if got := crc.Step(s, byte(b)); got != want {
				t.Fatalf("Step(%x, %x) = %x, not %x", s, b, got, want)
			}
		}
	}
}

func TestSum(t *testing.T) {
	known := map[string]uint32{"": 0, "\x00": 0xd202ef8d, "a": 0xe8b7be43, "abc": 0x352441c2, "123456789": 0xcbf43926, "\xff\xff\xff\xff": 0xffffffff}
	for s, want := range known {
		if got := crc.Sum(s); got != want {
			t.Errorf("Sum(%q) = %x, not %x", s, got, want)
		}
	}
	for _, s := range texts() {
		if got, want := crc.Sum(s), crc32.ChecksumIEEE([]byte(s)); got != want {
			t.Errorf("Sum(%q) = %x, not %x", s, got, want)
		}
	}
}

func TestSumIsOfSteps(t *testing.T) {
	for _, s := range texts() {
		n := uint32(math.MaxUint32)
		for k := range len(s) {
			n = crc.Step(n, s[k])
		}
		if crc.Sum(s) != ^n {
			t.Errorf("Sum(%q) is not that of its steps", s)
		}
	}
}

func TestMoreOfSplitBytes(t *testing.T) {
	for _, s := range texts() {
		for k := range len(s) + 1 {
			if got := crc.More(crc.Sum(s[:k]), s[k:]); got != crc.Sum(s) {
				t.Fatalf("More of %q behind %q = %x", s[k:], s[:k], got)
			}
		}
	}
}

// Each number is the sum of some bytes, whatever they are.
func TestMoreOfAnySum(t *testing.T) {
	for _, n := range numbers() {
		if got := crc.More(n, ""); got != n {
			t.Errorf("More(%x, nothing) = %x", n, got)
		}
		for _, s := range texts() {
			if got, want := crc.More(n, s), crc32.Update(n, crc32.IEEETable, []byte(s)); got != want {
				t.Fatalf("More(%x, %q) = %x, not %x", n, s, got, want)
			}
		}
	}
}

func TestChangeKnown(t *testing.T) {
	for _, x := range []struct {
		s    string
		bit  int
		mask uint32
		want string
	}{
		{"\x00", 0, 1, "\x01"},
		{"\x00", 7, 1, "\x80"},
		{"\x00\x00", 8, 1, "\x00\x01"},
		{"\x00\x00\x00\x00", 0, 0x04030201, "\x01\x02\x03\x04"},
		{"\x00\x00\x00\x00\x00", 4, math.MaxUint32, "\xf0\xff\xff\xff\x0f"},
		{"\x00\x00\x00\x00\x00\x00", 8, math.MaxUint32, "\x00\xff\xff\xff\xff\x00"},
		{"\xff\xff\xff\xff\xff", 1, 0x80000001, "\xfd\xff\xff\xff\xfe"},
		{"\x00", 3, math.MaxUint32, "\xf8"},
		{"\x00\x00", 15, math.MaxUint32, "\x00\x80"},
		{"\x00\x00", 15, 0xfffffffe, "\x00\x00"},
		{"ab", 5, 0, "ab"},
	} {
		if got, e := crc.Change(x.s, x.bit, x.mask); got != x.want || e != api.OK {
			t.Errorf("Change(%x, %d, %x) = %x, %d, not %x", x.s, x.bit, x.mask, got, e, x.want)
		}
	}
}

func TestChangeBitByBit(t *testing.T) {
	for _, s := range []string{"\x00", "r", "ro", "rost", "rostr", "rostrum\x00\xff", "\xff\x80\x7f\x00\x01\xfe"} {
		for bit := range 8 * len(s) {
			for _, mask := range numbers() {
				got, e := crc.Change(s, bit, mask)
				if got != changed(s, bit, mask) || e != api.OK {
					t.Fatalf("Change(%x, %d, %x) = %x, %d", s, bit, mask, got, e)
				}
				if back, e := crc.Change(got, bit, mask); back != s || e != api.OK {
					t.Fatalf("Change(%x, %d, %x) = %x, %d, not back at %x", got, bit, mask, back, e, s)
				}
			}
		}
	}
}

func TestChangeRefuses(t *testing.T) {
	for _, s := range []string{"", "a", "ab", "abcdefghi"} {
		n := 8 * len(s)
		for _, bit := range []int{n, n + 1, n + 7, n + 8, n + 32, math.MaxInt32, math.MaxInt - 7, math.MaxInt, -1, -7, -8, -9, -n - 1, math.MinInt32, math.MinInt} {
			for _, mask := range []uint32{0, 1, math.MaxUint32} {
				if got, e := crc.Change(s, bit, mask); got != "" || e != api.ErrArg {
					t.Errorf("Change(%q, %d, %x) = %q, %d", s, bit, mask, got, e)
				}
			}
		}
	}
}

func TestChangeAnswersNewMemory(t *testing.T) {
	s := strings.Repeat("rostrum", 9)
	for bit := range 8 * len(s) {
		for _, mask := range []uint32{0, 1} {
			if got, _ := crc.Change(s, bit, mask); shares(got, s) {
				t.Fatalf("Change at %d by %x shares memory", bit, mask)
			}
		}
	}
}

// P1.2

func TestPut(t *testing.T) {
	for n, want := range map[uint32]string{
		0:              "\x00\x00\x00\x00",
		1:              "\x01\x00\x00\x00",
		255:            "\xff\x00\x00\x00",
		256:            "\x00\x01\x00\x00",
		0x04030201:     "\x01\x02\x03\x04",
		0x80000000:     "\x00\x00\x00\x80",
		0xfffefdfc:     "\xfc\xfd\xfe\xff",
		math.MaxUint32: "\xff\xff\xff\xff",
	} {
		if got := crc.Put(n); got != want {
			t.Errorf("Put(%x) = %x, not %x", n, got, want)
		}
		if got, e := crc.Get(want); got != n || e != api.OK {
			t.Errorf("Get(%x) = %x, %d, not %x", want, got, e, n)
		}
	}
	for _, n := range numbers() {
		if got, e := crc.Get(crc.Put(n)); got != n || e != api.OK {
			t.Errorf("Get(Put(%x)) = %x, %d", n, got, e)
		}
	}
}

func TestGetRefuses(t *testing.T) {
	for _, s := range []string{"", "\x01", "\x01\x02", "\x01\x02\x03", "\x01\x02\x03\x04\x05", "\x01\x00\x00\x00\x00", "\x01\x02\x03\x04\x01\x02\x03\x04"} {
		if got, e := crc.Get(s); got != 0 || e != api.ErrArg {
			t.Errorf("Get(%x) = %x, %d", s, got, e)
		}
	}
}

func TestSeal(t *testing.T) {
	for s, want := range map[string]string{
		"":          "\x00\x00\x00\x00",
		"123456789": "123456789\x26\x39\xf4\xcb",
		"a":         "a\x43\xbe\xb7\xe8",
	} {
		if got := crc.Seal(s); got != want {
			t.Errorf("Seal(%q) = %x, not %x", s, got, want)
		}
	}
	for _, s := range texts() {
		if got := crc.Seal(s); got != s+crc.Put(crc.Sum(s)) {
			t.Errorf("Seal(%q) = %x", s, got)
		}
	}
}

func TestOpenKnown(t *testing.T) {
	for s, want := range map[string]string{
		"\x00\x00\x00\x00":                 "",
		"123456789\x26\x39\xf4\xcb":        "123456789",
		"\xff\xff\xff\xff\xff\xff\xff\xff": "\xff\xff\xff\xff",
	} {
		if got, ok := crc.Open(s); got != want || !ok {
			t.Errorf("Open(%x) = %q, %t, not %q", s, got, ok, want)
		}
	}
}

func TestOpenRefuses(t *testing.T) {
	for _, s := range []string{
		"", "\x00", "\x00\x00", "\x00\x00\x00", "abc",
		"\x00\x00\x00\x01", "\x01\x00\x00\x00", "\xff\xff\xff\xff", "abcd",
		"\x00\x00\x00\x00\x00",
		"123456789", "123456789\xcb\xf4\x39\x26", "123456789\x26\x39\xf4", "123456789\x26\x39\xf4\xcb\x00", "\x26\x39\xf4\xcb123456789",
	} {
		if got, ok := crc.Open(s); got != "" || ok {
			t.Errorf("Open(%x) = %q, %t", s, got, ok)
		}
	}
}

func TestOpenAnswersNewMemory(t *testing.T) {
	sealed := crc.Seal(strings.Repeat("rostrum", 9))
	if got, ok := crc.Open(sealed); !ok || shares(got, sealed) {
		t.Error("Open shares memory")
	}
}

// P1.3

func TestSealedIsOpenedToItself(t *testing.T) {
	for _, s := range texts() {
		if got, ok := crc.Open(crc.Seal(s)); got != s || !ok {
			t.Errorf("Open(Seal(%q)) = %q, %t", s, got, ok)
		}
		twice := crc.Seal(crc.Seal(s))
		if got, ok := crc.Open(twice); got != crc.Seal(s) || !ok {
			t.Errorf("Open(%x) = %x, %t", twice, got, ok)
		}
	}
}

func TestChangedIsNotOpened(t *testing.T) {
	for _, s := range texts() {
		sealed := crc.Seal(s)
		for bit := range 8 * len(sealed) {
			for _, mask := range numbers() {
				hurt, e := crc.Change(sealed, bit, mask)
				if e != api.OK {
					t.Fatalf("Change(%x, %d, %x): %d", sealed, bit, mask, e)
				}
				want, whole := "", false
				// What lies past the end turns over nothing.
				if changed(sealed, bit, mask) == sealed {
					want, whole = s, true
				}
				if got, ok := crc.Open(hurt); got != want || ok != whole {
					t.Fatalf("%x, changed at %d by %x, is opened to %q, %t", sealed, bit, mask, got, ok)
				}
			}
		}
	}
}
