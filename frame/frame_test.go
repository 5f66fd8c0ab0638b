package frame_test

import (
	"bytes"
	"encoding/hex"
	"math"
	"slices"
	"testing"

	"voyage/api"
	"voyage/frame"
)

func hexed(t *testing.T, text string) []byte {
	t.Helper()
	b, err := hex.DecodeString(text)
	if err != nil {
		t.Fatal(err)
	}
	return b
}

func wrapped(t *testing.T, payload []byte) []byte {
	t.Helper()
	b, err := frame.Wrap(payload)
	if err != nil {
		t.Fatalf("Wrap of %d bytes: %v", len(payload), err)
	}
	return b
}

func row(parts ...[]byte) []byte { return bytes.Join(parts, nil) }

func texts(list ...string) [][]byte {
	payloads := [][]byte{}
	for _, s := range list {
		payloads = append(payloads, []byte(s))
	}
	return payloads
}

func same(a, b [][]byte) bool { return slices.EqualFunc(a, b, bytes.Equal) }

func short(b []byte) string {
	if len(b) <= 100 {
		return hex.EncodeToString(b)
	}
	return hex.EncodeToString(b[:100]) + ".."
}

func checkScan(t *testing.T, what string, b []byte, payloads [][]byte, place int) {
	t.Helper()
	if got, at := frame.Scan(b); !same(got, payloads) || at != place {
		t.Fatalf("%s: Scan(%s) of %d bytes: %d payloads, %d; not %d, %d", what, short(b), len(b), len(got), at, len(payloads), place)
	}
}

// TestSum holds P11.1 at sums that are known, the chapter's among them.
func TestSum(t *testing.T) {
	for _, x := range []struct {
		of   string
		want uint32
	}{
		{"", 0},
		{"123456789", 0xFC891918},
		{"\x00", 0xB1F7404B},
		{"a", 0x19939B6B},
		{"\x00\x00\x00\x00", 0x38FB2284},
		{"\x00\x00\x00\x01", 0x3C3A3F33},
		{"\xff\xff\xff\xff", 0xFFFFFFFF},
		{"\xff", 0x000000FF},
		{"\xff\xff", 0x0000FFFF},
	} {
		if got := frame.Sum([]byte(x.of)); got != x.want {
			t.Errorf("Sum(%q): %08X, not %08X", x.of, got, x.want)
		}
	}
	if frame.Sum(nil) != 0 {
		t.Error("Sum(nil)")
	}
}

// TestWrap holds P11.2 at the chapter's examples and at a longer payload.
func TestWrap(t *testing.T) {
	for _, x := range []struct{ payload, want string }{
		{"", "00000000" + "38fb2284" + "00000000"},
		{"a", "00000001" + "3c3a3f33" + "61" + "19939b6b"},
		{"123456789", "00000009" + hex.EncodeToString(told(plainSum([]byte{0, 0, 0, 9}))) + "313233343536373839" + "fc891918"},
	} {
		if got := wrapped(t, []byte(x.payload)); hex.EncodeToString(got) != x.want {
			t.Errorf("Wrap(%q): %x, not %s", x.payload, got, x.want)
		}
	}
	if got := wrapped(t, nil); hex.EncodeToString(got) != "0000000038fb228400000000" {
		t.Errorf("Wrap(nil): %x", got)
	}
}

// TestWrapLengths holds that the length is told in four bytes, the highest first, at lengths which need one, two and three of them.
func TestWrapLengths(t *testing.T) {
	for _, n := range []int{1, 127, 128, 255, 256, 257, 511, 65535, 65536, 65537, 1 << 20} {
		payload := bytes.Repeat([]byte{0xA5, 0, 0xFF}, n)[:n]
		b := wrapped(t, payload)
		if !bytes.Equal(b, framed(payload)) {
			t.Errorf("Wrap of %d bytes: %s", n, short(b))
		}
		checkScan(t, "one frame", b, [][]byte{payload}, n+12)
	}
}

// TestMaxRecord holds P11.2 and P11.3 at the limit and one beyond it.
func TestMaxRecord(t *testing.T) {
	payload := bytes.Repeat([]byte("voyage"), api.MaxRecord/6+1)
	greatest, over := payload[:api.MaxRecord], payload[:api.MaxRecord+1]
	b := wrapped(t, greatest)
	if !bytes.Equal(b, framed(greatest)) {
		t.Errorf("Wrap of MaxRecord bytes: %s", short(b))
	}
	checkScan(t, "MaxRecord", row(b, framed([]byte("x"))), [][]byte{greatest, []byte("x")}, len(b)+13)
	checkScan(t, "MaxRecord, one byte short", b[:len(b)-1], nil, 0)

	for _, n := range []int{api.MaxRecord + 1, api.MaxRecord + 2, 2 * api.MaxRecord} {
		if got, err := frame.Wrap(make([]byte, n)); err != api.ErrLong || len(got) != 0 {
			t.Errorf("Wrap of %d bytes: %d bytes, %v", n, len(got), err)
		}
	}
	checkScan(t, "one above MaxRecord, all else right", row(framed([]byte("x")), framed(over)), texts("x"), 13)
}

// TestScan holds P11.3 at the chapter's examples and at rows of frames.
func TestScan(t *testing.T) {
	none, a := hexed(t, "0000000038fb228400000000"), hexed(t, "000000013c3a3f336119939b6b")
	checkScan(t, "two and two bytes", row(none, a, []byte{0, 0}), texts("", "a"), 25)
	checkScan(t, "nil", nil, nil, 0)
	checkScan(t, "nothing", []byte{}, nil, 0)
	checkScan(t, "11 bytes of a frame", none[:11], nil, 0)
	checkScan(t, "11 bytes of another", a[:11], nil, 0)
	checkScan(t, "an empty payload", none, texts(""), 12)
	checkScan(t, "empty payloads", row(none, none, none), texts("", "", ""), 36)
	checkScan(t, "the same twice", row(a, a), texts("a", "a"), 26)

	many, payloads := []byte{}, [][]byte{}
	for n := range 300 {
		payloads = append(payloads, bytes.Repeat([]byte{byte(n), byte(n >> 8), 7}, n)[:n])
		many = append(many, wrapped(t, payloads[n])...)
	}
	checkScan(t, "300 frames", many, payloads, len(many))
}

// TestScanInside holds that frames are found one directly behind the other, nowhere else.
func TestScanInside(t *testing.T) {
	a, b := framed([]byte("first")), framed([]byte("second"))
	checkScan(t, "frames as a payload", framed(row(a, b)), [][]byte{row(a, b)}, len(a)+len(b)+12)
	checkScan(t, "a byte ahead", row([]byte{0}, a), nil, 0)
	checkScan(t, "a byte between", row(a, []byte{0}, b), texts("first"), len(a))
	checkScan(t, "one cut off ahead of one that is whole", row(a, b[:len(b)-1], a), texts("first"), len(a))
	checkScan(t, "one that lost its first byte", row(a, b[1:], a), texts("first"), len(a))

	spoilt := row(framed(nil), a, b, a)
	spoilt[12+10] ^= 1
	checkScan(t, "one spoilt ahead of two that are whole", spoilt, texts(""), 12)
}

// TestScanLengths holds that a length is taken only where it is right, has its sum, is at most MaxRecord, and its payload is there.
func TestScanLengths(t *testing.T) {
	first := framed([]byte("ab"))
	for _, length := range []uint32{0, 1, 2, 4, 5, 100, api.MaxRecord, api.MaxRecord + 1, 1 << 24, math.MaxInt32 - 12, math.MaxInt32 - 11, math.MaxInt32, 1 << 31, math.MaxUint32 - 11, math.MaxUint32} {
		n := told(length)
		checkScan(t, "a length of another payload, with its sum", row(first, n, told(plainSum(n)), []byte("abc"), told(plainSum([]byte("abc")))), texts("ab"), len(first))
	}
	right := told(3)
	abc := told(plainSum([]byte("abc")))
	checkScan(t, "the right one", row(first, right, told(plainSum(right)), []byte("abc"), abc), texts("ab", "abc"), len(first)+15)
	checkScan(t, "without its sum", row(first, right, []byte{0, 0, 0, 0}, []byte("abc"), abc), texts("ab"), len(first))
	checkScan(t, "lowest byte first", row(first, []byte{3, 0, 0, 0}, told(plainSum([]byte{3, 0, 0, 0})), []byte("abc"), abc), texts("ab"), len(first))
	checkScan(t, "the sum of another payload", row(first, right, told(plainSum(right)), []byte("abc"), told(plainSum([]byte("abd")))), texts("ab"), len(first))
	checkScan(t, "a payload's sum is its frame's", row(first, right, told(plainSum(right)), []byte("abc"), told(plainSum(row(right, told(plainSum(right)), []byte("abc"))))), texts("ab"), len(first))
}

// TestScanBlank holds that rows of one byte, as a disk has them where nothing was written, are no frames.
func TestScanBlank(t *testing.T) {
	for _, c := range []byte{0, 0xFF, 0x55, ' '} {
		for n := range 64 {
			checkScan(t, "one byte again and again", bytes.Repeat([]byte{c}, n), nil, 0)
		}
	}
}
