package frame_test

import (
	"hash/crc32"
	"math"
	"math/rand"
	"strings"
	"testing"
	"unsafe"

	"rostrum/api"
	"rostrum/crc"
	"rostrum/frame"
)

// bare is the example of the chapter: 24 bytes of WireOne.
var bare = api.Frame{Wire: api.WireOne, Kind: 1, From: 2, To: 3}

// full has a number of its own in every byte.
var full = api.Frame{Wire: api.WireTwo, Kind: 31, From: 15, To: 14, Life: 0x04030201, Seq: 0x14131211, Ack: 0x24232221, Hint: 0x34333231, Data: "data"}

// sealed is s with the sum of Go's own library behind it.
func sealed(s string) string {
	n := crc32.ChecksumIEEE([]byte(s))
	return s + string([]byte{byte(n), byte(n >> 8), byte(n >> 16), byte(n >> 24)})
}

// rightFrames are right ones, at all edges that the chapter names.
func rightFrames() []api.Frame {
	frames := []api.Frame{bare, full}
	for _, wire := range []int{api.WireOne, api.WireTwo} {
		for _, kind := range []int{0, 1, 30, 31} {
			for _, from := range []int{0, 1, 15} {
				for _, to := range []int{0, 14, 15} {
					frames = append(frames, api.Frame{Wire: wire, Kind: kind, From: from, To: to})
				}
			}
		}
		for _, n := range []uint32{0, 1, 255, 256, 1 << 16, 1 << 24, 1 << 31, math.MaxUint32} {
			frames = append(frames,
				api.Frame{Wire: wire, Life: n},
				api.Frame{Wire: wire, Seq: n},
				api.Frame{Wire: wire, Ack: n},
				api.Frame{Wire: api.WireTwo, Hint: n})
		}
		for _, size := range []int{1, 2, 255, 256, 257, 4095, 4096} {
			frames = append(frames, api.Frame{Wire: wire, Data: strings.Repeat("\x00H\xff", size)[:size]})
		}
	}
	return frames
}

// wrongFrames are wrong in one of the chapter's points each.
func wrongFrames() []api.Frame {
	var frames []api.Frame
	for _, wire := range []int{math.MinInt, -1, 0, 3, 257, 258, 1<<32 + 1, 1<<32 + 2, math.MaxInt} {
		f := bare
		f.Wire = wire
		frames = append(frames, f)
	}
	numbers := []int{math.MinInt, -256, -16, -1, 256, 1 << 32, math.MaxInt}
	for _, good := range []api.Frame{bare, full} {
		for _, n := range append(numbers, 32) {
			f := good
			f.Kind = n
			frames = append(frames, f)
		}
		for _, n := range append(numbers, 16) {
			f, g := good, good
			f.From, g.To = n, n
			frames = append(frames, f, g)
		}
		f := good
		f.Data = strings.Repeat("d", 4097)
		frames = append(frames, f)
	}
	for _, hint := range []uint32{1, 1 << 31, math.MaxUint32} {
		f := bare
		f.Hint = hint
		frames = append(frames, f)
	}
	return frames
}

// P2.1

func TestRightIsSoWithinAllLimits(t *testing.T) {
	for _, f := range rightFrames() {
		if !frame.Right(f) {
			t.Errorf("%+v is said to be wrong", f)
		}
	}
}

func TestRightIsNotSoBehindOneLimit(t *testing.T) {
	for _, f := range wrongFrames() {
		if frame.Right(f) {
			t.Errorf("%+v is said to be right", f)
		}
	}
	if frame.Right(api.Frame{}) {
		t.Error("a frame of no version is said to be right")
	}
}

func TestEncodeIsTheChaptersBytes(t *testing.T) {
	cases := map[string]api.Frame{
		"\x48\x01\x01\x23" + strings.Repeat("\x00", 16):                                                        bare,
		"\x48\x02\x1f\xfe\x01\x02\x03\x04\x11\x12\x13\x14\x21\x22\x23\x24\x31\x32\x33\x34\x04\x00\x00\x00data": full,
		"\x48\x01\x00\x0f" + strings.Repeat("\xff", 12) + "\x00\x10\x00\x00" + strings.Repeat("x", 4096):       {Wire: 1, To: 15, Life: math.MaxUint32, Seq: math.MaxUint32, Ack: math.MaxUint32, Data: strings.Repeat("x", 4096)},
		"\x48\x02\x00\xf0" + strings.Repeat("\x00", 16) + "\x02\x01\x00\x00" + strings.Repeat("y", 258):        {Wire: 2, From: 15, Data: strings.Repeat("y", 258)},
	}
	for want, f := range cases {
		if s, errno := frame.Encode(f); s != sealed(want) || errno != api.OK {
			t.Errorf("%+v: %x, %d", f, s, errno)
		}
	}
}

func TestEncodeHasTheLengthOfItsVersion(t *testing.T) {
	for _, f := range rightFrames() {
		want := api.FrameOne + len(f.Data)
		if f.Wire == api.WireTwo {
			want = api.FrameTwo + len(f.Data)
		}
		if s, _ := frame.Encode(f); len(s) != want {
			t.Errorf("%+v: %d bytes, not %d", f, len(s), want)
		}
	}
}

func TestEncodeRefusesWrongFrames(t *testing.T) {
	for _, f := range append(wrongFrames(), api.Frame{}) {
		if s, errno := frame.Encode(f); s != "" || errno != api.ErrFrame {
			t.Errorf("%+v: %q, %d", f, s, errno)
		}
	}
}

// P2.2

func TestDecodeIsTheFrameOfItsBytes(t *testing.T) {
	for _, f := range rightFrames() {
		s, _ := frame.Encode(f)
		if g, errno := frame.Decode(s); g != f || errno != api.OK {
			t.Errorf("%x: %+v, %d", s, g, errno)
		}
	}
	s := sealed("\x48\x01\x02\xa5\x01\x00\x00\x00\x00\x02\x00\x00\x00\x00\x03\x80\x03\x00\x00\x00abc")
	want := api.Frame{Wire: 1, Kind: 2, From: 10, To: 5, Life: 1, Seq: 0x200, Ack: 0x80030000, Data: "abc"}
	if g, errno := frame.Decode(s); g != want || errno != api.OK {
		t.Errorf("%+v, %d", g, errno)
	}
}

// refused looks that bytes are answered by an error and no frame.
func refused(t *testing.T, s string, want api.Errno) {
	t.Helper()
	if f, errno := frame.Decode(s); f != (api.Frame{}) || errno != want {
		t.Errorf("%x: %+v, %d, not %d", s, f, errno, want)
	}
}

func TestDecodeRefusesWhatIsNotSealed(t *testing.T) {
	whole, _ := frame.Encode(full)
	for cut := range len(whole) {
		refused(t, whole[:cut], api.ErrSum)
	}
	for _, s := range []string{"", "a", "\x00\x00\x00", "\x01\x00\x00\x00", whole + "\x00", whole[1:], strings.Repeat("H", 5000)} {
		refused(t, s, api.ErrSum)
	}
	// The sum is asked ahead of the version.
	old := sealed("\x48\x03")
	refused(t, old[:len(old)-1]+"\x00", api.ErrSum)
}

func TestDecodeTellsVersionsThatItDoesNotKnow(t *testing.T) {
	rest := strings.Repeat("\x00", 18)
	for wire := range 256 {
		if wire == api.WireOne || wire == api.WireTwo {
			continue
		}
		start := "\x48" + string([]byte{byte(wire)})
		refused(t, sealed(start), api.ErrOld)
		refused(t, sealed(start+rest), api.ErrOld)
		refused(t, sealed(start+strings.Repeat("\xff", 5000)), api.ErrOld)
	}
}

func TestDecodeRefusesWhatDoesNotBeginAsAFrame(t *testing.T) {
	one, _ := crc.Open(mustEncode(t, bare))
	for first := range 256 {
		if first == 72 {
			continue
		}
		b := string([]byte{byte(first)})
		refused(t, sealed(b), api.ErrFrame)
		refused(t, sealed(b+"\x03"), api.ErrFrame)
		refused(t, sealed(b+one[1:]), api.ErrFrame)
	}
	refused(t, sealed(""), api.ErrFrame)
	refused(t, sealed("\x48"), api.ErrFrame)
	refused(t, sealed("\x03\x48"), api.ErrFrame)
}

func mustEncode(t *testing.T, f api.Frame) string {
	t.Helper()
	s, errno := frame.Encode(f)
	if errno != api.OK {
		t.Fatalf("%+v: %d", f, errno)
	}
	return s
}

func TestDecodeRefusesCutAndLongBytes(t *testing.T) {
	for _, f := range []api.Frame{bare, full, {Wire: 2}, {Wire: 1, Data: "abc"}} {
		opened, _ := crc.Open(mustEncode(t, f))
		for cut := 2; cut < len(opened); cut++ {
			refused(t, sealed(opened[:cut]), api.ErrFrame)
		}
		refused(t, sealed(opened+"\x00"), api.ErrFrame)
		refused(t, sealed(opened+opened), api.ErrFrame)
	}
}

func TestDecodeRefusesFieldsBehindTheirLimits(t *testing.T) {
	for kind := 32; kind < 256; kind++ {
		refused(t, sealed("\x48\x01"+string([]byte{byte(kind)})+strings.Repeat("\x00", 17)), api.ErrFrame)
	}
	head := "\x48\x01\x00\x00" + strings.Repeat("\x00", 12)
	refused(t, sealed(head+"\x01\x10\x00\x00"+strings.Repeat("d", 4097)), api.ErrFrame)
	// Sizes whose low bytes alone would be right.
	for _, size := range []string{"\x02\x00\x00\x00", "\x04\x00\x00\x00", "\x03\x01\x00\x00", "\x03\x00\x01\x00", "\x03\x00\x00\x01", "\x03\x00\x00\x80", "\xff\xff\xff\xff"} {
		refused(t, sealed(head+size+"abc"), api.ErrFrame)
	}
	// A frame of one version with the other one's number.
	two, _ := crc.Open(mustEncode(t, full))
	refused(t, sealed("\x48\x01"+two[2:]), api.ErrFrame)
	one, _ := crc.Open(mustEncode(t, bare))
	refused(t, sealed("\x48\x02"+one[2:]), api.ErrFrame)
}

func TestDecodeAnswersNewMemory(t *testing.T) {
	s := mustEncode(t, full)
	f, _ := frame.Decode(s)
	if shares(s, f.Data) {
		t.Error("the data is a piece of what was handed in")
	}
}

// shares tells whether a piece lies within s.
func shares(s, piece string) bool {
	start, at := uintptr(unsafe.Pointer(unsafe.StringData(s))), uintptr(unsafe.Pointer(unsafe.StringData(piece)))
	return at >= start && at < start+uintptr(len(s))
}

// P2.3

func TestTurn(t *testing.T) {
	for _, f := range rightFrames() {
		one, two := f, f
		one.Wire, one.Hint = api.WireOne, 0
		two.Wire = api.WireTwo
		if g, errno := frame.Turn(f, api.WireOne); g != one || errno != api.OK {
			t.Errorf("%+v to 1: %+v, %d", f, g, errno)
		}
		if g, errno := frame.Turn(f, api.WireTwo); g != two || errno != api.OK {
			t.Errorf("%+v to 2: %+v, %d", f, g, errno)
		}
	}
}

var noVersions = []int{math.MinInt, -1, 0, 3, 72, 255, 256, 257, 258, 1<<32 + 1, 1<<32 + 2, math.MaxInt}

func TestTurnRefuses(t *testing.T) {
	for _, wire := range noVersions {
		for _, f := range []api.Frame{bare, full} {
			if g, errno := frame.Turn(f, wire); g != (api.Frame{}) || errno != api.ErrOld {
				t.Errorf("to %d: %+v, %d", wire, g, errno)
			}
		}
	}
	for _, f := range append(wrongFrames(), api.Frame{}) {
		// A wrong frame is told ahead of a wrong version.
		for _, wire := range append([]int{api.WireOne, api.WireTwo}, noVersions...) {
			if g, errno := frame.Turn(f, wire); g != (api.Frame{}) || errno != api.ErrFrame {
				t.Errorf("%+v to %d: %+v, %d", f, wire, g, errno)
			}
		}
	}
}

func TestTurnAnswersNewMemory(t *testing.T) {
	f := full
	f.Data = strings.Repeat("x", 100)
	if g, _ := frame.Turn(f, api.WireOne); shares(f.Data, g.Data) {
		t.Error("the data is what was handed in")
	}
}

func TestAgreed(t *testing.T) {
	for _, c := range [][3]int{{1, 1, 1}, {1, 2, 1}, {2, 1, 1}, {2, 2, 2}} {
		if n, errno := frame.Agreed(c[0], c[1]); n != c[2] || errno != api.OK {
			t.Errorf("%v: %d, %d", c, n, errno)
		}
	}
	for _, no := range noVersions {
		for _, pair := range [][2]int{{no, 1}, {1, no}, {no, 2}, {2, no}, {no, no}} {
			if n, errno := frame.Agreed(pair[0], pair[1]); n != 0 || errno != api.ErrOld {
				t.Errorf("%v: %d, %d", pair, n, errno)
			}
		}
	}
}

// P2.4

func TestFramesAndBytesAreOneToOne(t *testing.T) {
	seen := map[string]api.Frame{}
	for _, f := range rightFrames() {
		s := mustEncode(t, f)
		if g, ok := seen[s]; ok && g != f {
			t.Errorf("%+v and %+v have the same bytes", f, g)
		}
		seen[s] = f
	}
}

// Bytes that are a frame's but for one byte are another frame's or none's; where they are, that frame has them alone.
func TestBytesThatAreReadAreWrittenBack(t *testing.T) {
	for _, f := range []api.Frame{bare, full} {
		opened, _ := crc.Open(mustEncode(t, f))
		for at := range len(opened) {
			for b := range 256 {
				s := sealed(opened[:at] + string([]byte{byte(b)}) + opened[at+1:])
				g, errno := frame.Decode(s)
				if errno != api.OK {
					continue
				}
				if back, _ := frame.Encode(g); back != s {
					t.Errorf("%x is read, but %x written back", s, back)
				}
			}
		}
	}
}

func TestChangesOfThirtyTwoBitsInARowAreFound(t *testing.T) {
	random := rand.New(rand.NewSource(2))
	for _, f := range []api.Frame{bare, full, {Wire: 2, Data: strings.Repeat("q", 300)}} {
		s := mustEncode(t, f)
		for bit := range 8 * len(s) {
			for _, mask := range []uint32{1, 3, 0x80000001, math.MaxUint32, random.Uint32() | 1, random.Uint32() | 1} {
				hurt, _ := crc.Change(s, bit, mask)
				refused(t, hurt, api.ErrSum)
			}
		}
	}
}
