package frame_test

import (
	"bytes"
	"encoding/binary"
	"hash/crc32"
	"math"
	"slices"
	"testing"

	"tailrace/api"
	"tailrace/frame"
)

// noKinds are numbers that are no frame's kind: some of them are one modulo 256 or 2^32.
var noKinds = []int{0, 5, 6, 127, 128, 255, 256, 257, 260, 1<<32 + 1, math.MaxInt32, math.MaxInt, -1, -2, -4, -252, -255, math.MinInt32, math.MinInt, math.MinInt + 1}

// noPlaces are numbers that are no frame's place: some of them are one modulo 2^32.
var noPlaces = []int{1 << 31, 1<<31 + 1, 1<<31 + 5, 1<<32 - 1, 1 << 32, 1<<32 + 1, 1<<32 + 5, math.MaxInt, -1, -2, -5, -(1 << 31), -(1 << 31) - 1, -(1 << 32), -(1 << 32) + 5, math.MinInt, math.MinInt + 5}

// places are places, those at the edges of each byte among them.
var places = []int{0, 1, 2, 5, 127, 128, 255, 256, 257, 4095, 65535, 65536, 0x00010203, 0x01020304, 1<<24 - 1, 1 << 24, 0x7F000000, 0x7FFEFDFC, math.MaxInt32 - 1, math.MaxInt32}

// mixed are n bytes of all values, none of them repeated in a simple order.
func mixed(n int) []byte {
	b := make([]byte, n)
	word := uint32(n + 1)
	for i := range b {
		word = word*1664525 + 1013904223
		b[i] = byte(word >> 24)
	}
	return b
}

// datas are data of many lengths.
func datas() [][]byte {
	l := [][]byte{nil, {}, {0}, {255}, []byte("a"), {0, 0, 0, 0}, bytes.Repeat([]byte{255}, 11)}
	for _, n := range []int{1, 2, 3, 4, 5, 6, 7, 8, 11, 255, 256, 257, 511, 512, 513, 767, 768, 998, 999, 1000} {
		l = append(l, mixed(n), make([]byte, n))
	}
	return l
}

// sealed are bytes, and behind them the check sum that fits them.
func sealed(b []byte) []byte {
	return binary.BigEndian.AppendUint32(bytes.Clone(b), crc32.ChecksumIEEE(b))
}

// laid are a frame's bytes as P5.1 tells them, of any numbers, with a check sum that fits.
func laid(kind byte, place uint32, length uint16, data []byte) []byte {
	b := binary.BigEndian.AppendUint32([]byte{kind}, place)
	b = binary.BigEndian.AppendUint16(b, length)
	return sealed(append(b, data...))
}

// packed is a frame, which there must be.
func packed(t *testing.T, kind, place int, data []byte) []byte {
	t.Helper()
	b, e := frame.Pack(kind, place, data)
	if e != api.OK {
		t.Fatalf("Pack(%d, %d, %d bytes): %d", kind, place, len(data), e)
	}
	return b
}

// isFrame asks for what a frame is unpacked as.
func isFrame(t *testing.T, what string, place int, b []byte, kind int, data []byte) {
	t.Helper()
	if k, d, e := frame.Unpack(place, b); k != kind || !bytes.Equal(d, data) || e != api.OK {
		t.Errorf("%s: Unpack(%d) of %d bytes: %d, %d bytes, %d; not %d, %d bytes", what, place, len(b), k, len(d), e, kind, len(data))
	}
}

// isNone asks that bytes are no frame of a place: kind and data are their zero values then (R2).
func isNone(t *testing.T, what string, place int, b []byte) {
	t.Helper()
	if k, d, e := frame.Unpack(place, b); k != 0 || len(d) != 0 || e != api.ErrFrame {
		t.Errorf("%s: Unpack(%d) of %d bytes: %d, %d bytes, %d", what, place, len(b), k, len(d), e)
	}
}

// isRefused asks that there is no such frame (R2: and no bytes).
func isRefused(t *testing.T, kind, place int, data []byte) {
	t.Helper()
	if b, e := frame.Pack(kind, place, data); len(b) != 0 || e != api.ErrArg {
		t.Errorf("Pack(%d, %d, %d bytes): %d bytes, %d", kind, place, len(data), len(b), e)
	}
}

// The chapter's examples.
func TestExamples(t *testing.T) {
	b := packed(t, 2, 5, []byte("a"))
	isFrame(t, "Pack(2, 5, a)", 5, b, 2, []byte("a"))
	isNone(t, "Pack(2, 5, a)", 6, b)
	isRefused(t, 0, 5, []byte("a"))
	isNone(t, "none", 5, nil)
	if b := frame.Numbers([]int{1, 258}); !bytes.Equal(b, []byte{0, 0, 0, 1, 0, 0, 1, 2}) {
		t.Errorf("Numbers(1 258): %d", b)
	}
	if l, e := frame.Read([]byte{1}); len(l) != 0 || e != api.ErrFrame {
		t.Errorf("Read(1): %d, %d", l, e)
	}
}

// P5.1: laid out by hand, the highest byte first of each number.
func TestPackLaidOutByHand(t *testing.T) {
	for _, c := range []struct {
		kind, place int
		data        string
		want        []byte
	}{
		{api.FSuper, 0, "", []byte{1, 0, 0, 0, 0, 0, 0, 0x3B, 0x1B, 0xD4, 0xCA}},
		{api.FLeaf, 5, "a", []byte{2, 0, 0, 0, 5, 0, 1, 'a', 0x33, 0x77, 0x48, 0xA9}},
		{api.FInner, 0x01020304, "\x00\xff", []byte{3, 1, 2, 3, 4, 0, 2, 0, 255, 0xD9, 0x23, 0xD6, 0x51}},
		{api.FSpace, math.MaxInt32, "123456789", []byte{4, 127, 255, 255, 255, 0, 9, '1', '2', '3', '4', '5', '6', '7', '8', '9', 0x8F, 0xC9, 0x0D, 0x33}},
	} {
		if b, e := frame.Pack(c.kind, c.place, []byte(c.data)); !bytes.Equal(b, c.want) || e != api.OK {
			t.Errorf("Pack(%d, %d, %q): % X, %d, not % X", c.kind, c.place, c.data, b, e, c.want)
		}
		isFrame(t, c.data, c.place, c.want, c.kind, []byte(c.data))
	}
}

// P5.1: two bytes tell how many bytes the data has.
func TestPackLaysTheLength(t *testing.T) {
	for n, want := range map[int][2]byte{0: {0, 0}, 1: {0, 1}, 255: {0, 255}, 256: {1, 0}, 258: {1, 2}, 999: {3, 231}, 1000: {3, 232}} {
		b := packed(t, api.FLeaf, 7, mixed(n))
		if len(b) != n+11 || [2]byte(b[5:7]) != want {
			t.Errorf("Pack of %d bytes: %d bytes, the length %d, not %d", n, len(b), b[5:7], want)
		}
		if !bytes.Equal(b[7:7+n], mixed(n)) {
			t.Errorf("Pack of %d bytes has other data", n)
		}
	}
}

// P5.1, P5.2, P5.4: of each kind, at many places, of much data.
func TestPackIsAsItIsLaid(t *testing.T) {
	for kind := api.FSuper; kind <= api.FSpace; kind++ {
		for _, place := range places {
			for _, data := range datas() {
				b := packed(t, kind, place, data)
				if want := laid(byte(kind), uint32(place), uint16(len(data)), data); !bytes.Equal(b, want) {
					t.Fatalf("Pack(%d, %d, %d bytes): % X, not % X", kind, place, len(data), b, want)
				}
				isFrame(t, "what was packed", place, b, kind, data)
			}
		}
	}
}

// P5.2: the largest frame lies in a sector.
func TestAFrameLiesInASector(t *testing.T) {
	b := packed(t, api.FSpace, math.MaxInt32, mixed(api.MaxData))
	if len(b) != 1011 || len(b) > api.SectorSize {
		t.Errorf("a frame of %d bytes has %d", api.MaxData, len(b))
	}
}

// P5.2
func TestPackOfKinds(t *testing.T) {
	for kind := 1; kind <= 4; kind++ {
		if b := packed(t, kind, 5, []byte("a")); int(b[0]) != kind {
			t.Errorf("Pack(%d): the kind %d", kind, b[0])
		}
	}
	for _, kind := range noKinds {
		isRefused(t, kind, 5, []byte("a"))
		isRefused(t, kind, 0, nil)
	}
}

// P5.2
func TestPackOfPlaces(t *testing.T) {
	for _, place := range []int{0, 1, math.MaxInt32 - 1, math.MaxInt32} {
		isFrame(t, "a place that may be", place, packed(t, api.FInner, place, []byte("a")), api.FInner, []byte("a"))
	}
	for _, place := range noPlaces {
		isRefused(t, api.FInner, place, []byte("a"))
		isRefused(t, api.FSuper, place, nil)
	}
}

// P5.2: lengths too that are less modulo 2^16.
func TestPackOfSoManyBytes(t *testing.T) {
	for _, data := range [][]byte{nil, {}, make([]byte, 0, 5000), {9}, mixed(999), mixed(1000), make([]byte, 1000, 5000)} {
		isFrame(t, "data that may be", 5, packed(t, api.FLeaf, 5, data), api.FLeaf, data)
	}
	for _, n := range []int{1001, 1002, 1011, 1024, 65535, 65536, 65537, 66536, 1 << 20} {
		isRefused(t, api.FLeaf, 5, mixed(n))
		isRefused(t, 0, 5, mixed(n))
		isRefused(t, api.FLeaf, -1, mixed(n))
	}
}

// P5.2, P5.4
func TestUnpackAtItsPlaceAlone(t *testing.T) {
	for _, place := range places {
		b := packed(t, api.FLeaf, place, []byte("data"))
		for _, at := range slices.Concat(places, noPlaces, []int{place - 1, place + 1, place + 1<<31, place + 1<<32, place - 1<<32, -place, ^place, place << 8, place >> 8}) {
			if at == place {
				isFrame(t, "its place", at, b, api.FLeaf, []byte("data"))
			} else {
				isNone(t, "another place", at, b)
			}
		}
	}
}

// P5.2: no frame is one of a place that there is not, whatever its bytes tell.
func TestUnpackAtNoPlace(t *testing.T) {
	for _, place := range noPlaces {
		b := laid(api.FLeaf, uint32(place), 1, []byte("a"))
		isNone(t, "bytes of no place", place, b)
		isNone(t, "none", place, nil)
	}
	for _, place := range []uint32{1 << 31, 1<<31 + 5, math.MaxUint32} {
		b := laid(api.FLeaf, place, 1, []byte("a"))
		for _, at := range []int{int(place), int(int32(place)), int(place & math.MaxInt32), 0, 5, -1} {
			isNone(t, "bytes of a place above all", at, b)
		}
	}
}

// P5.2
func TestUnpackOfFewBytes(t *testing.T) {
	for n := range 11 {
		isNone(t, "bytes 0", 0, make([]byte, n))
		isNone(t, "bytes 1", 0x01010101, bytes.Repeat([]byte{1}, n))
		if n >= 4 {
			isNone(t, "a check sum that fits", 0, sealed([]byte{2, 0, 0, 0, 0, 0, 0}[:n-4]))
		}
	}
	isNone(t, "nil", 0, nil)
	isNone(t, "empty", 0, []byte{})
	isNone(t, "room alone", 5, packed(t, api.FLeaf, 5, nil)[:0])
	isFrame(t, "the fewest bytes", 0, packed(t, api.FLeaf, 0, nil), api.FLeaf, nil)
}

// P5.2: bytes that are left out stand behind the others still: they do not count.
func TestUnpackOfAFrameThatIsCut(t *testing.T) {
	for _, n := range []int{0, 1, 4, 5, 256, 1000} {
		b := packed(t, api.FInner, 77, mixed(n))
		for i := range b {
			isNone(t, "cut at the end", 77, b[:i])
			isNone(t, "cut at the beginning", 77, b[i+1:])
			isNone(t, "a byte left out", 77, slices.Concat(b[:i], b[i+1:]))
			if i >= 4 && i < len(b)-4 {
				isNone(t, "cut, with a check sum that fits", 77, sealed(b[:i]))
			}
		}
	}
}

// P5.2
func TestUnpackOfAFrameWithMoreBytes(t *testing.T) {
	for _, n := range []int{0, 1, 4, 989, 1000} {
		b := packed(t, api.FInner, 77, mixed(n))
		for _, more := range [][]byte{{0}, {255}, {0, 0, 0, 0}, b, make([]byte, 13), make([]byte, 1024), make([]byte, 1<<16)} {
			isNone(t, "bytes behind", 77, slices.Concat(b, more))
			isNone(t, "bytes ahead", 77, slices.Concat(more, b))
			isNone(t, "bytes behind, with a check sum that fits", 77, sealed(slices.Concat(b, more)))
		}
		for i := range len(b) + 1 {
			isNone(t, "a byte 0 between", 77, slices.Insert(bytes.Clone(b), i, 0))
		}
	}
}

// P5.4: each byte of small frames is each other one.
func TestUnpackOfAFrameOfAnotherByte(t *testing.T) {
	for _, c := range []struct {
		kind, place int
		data        []byte
	}{{1, 0, nil}, {2, 5, []byte("a")}, {3, 0x01020304, []byte{0, 255, 0}}, {4, math.MaxInt32, []byte("123456789")}} {
		b := packed(t, c.kind, c.place, c.data)
		for i := range b {
			for by := 1; by < 256; by++ {
				b[i] ^= byte(by)
				isNone(t, "another byte", c.place, b)
				b[i] ^= byte(by)
			}
		}
		isFrame(t, "its own bytes again", c.place, b, c.kind, c.data)
	}
}

// P5.4: each byte of large frames is some other one.
func TestUnpackOfALargeFrameOfAnotherByte(t *testing.T) {
	for _, data := range [][]byte{mixed(1000), make([]byte, 1000), mixed(257)} {
		b := packed(t, api.FLeaf, 9, data)
		for i := range b {
			for _, by := range []byte{1, 2, 64, 128, 255} {
				b[i] ^= by
				isNone(t, "another byte", 9, b)
				b[i] ^= by
			}
		}
		isFrame(t, "its own bytes again", 9, b, api.FLeaf, data)
	}
}

// P5.2: the check sum fits, the kind is none.
func TestUnpackOfKindsThatMayNotBe(t *testing.T) {
	for kind := range 256 {
		b := laid(byte(kind), 5, 1, []byte("a"))
		if kind >= 1 && kind <= 4 {
			isFrame(t, "a kind", 5, b, kind, []byte("a"))
		} else {
			isNone(t, "no kind", 5, b)
		}
	}
}

// P5.2: the check sum fits, the length does not.
func TestUnpackOfLengthsThatDoNotFit(t *testing.T) {
	for _, n := range []int{0, 1, 2, 8, 255, 256, 257, 1000} {
		data := mixed(n)
		for _, length := range []int{0, 1, 2, 7, 8, 9, n - 1, n + 1, n + 4, n + 7, n + 11, n ^ 256, n << 8 & 0xFFFF, n>>8 | n<<8&0xFF00, 1000, 1001, 32768, 65535} {
			if length < 0 || length == n {
				continue
			}
			isNone(t, "another length", 5, laid(api.FLeaf, 5, uint16(length), data))
		}
		isFrame(t, "its length", 5, laid(api.FLeaf, 5, uint16(n), data), api.FLeaf, data)
	}
}

// P5.2: the check sum and the length fit, but data has no more than MaxData bytes; nor is a length told modulo 2^16.
func TestUnpackOfTooManyBytes(t *testing.T) {
	for _, n := range []int{1001, 1002, 1013, 1024, 2000, 65535} {
		isNone(t, "too many bytes", 5, laid(api.FLeaf, 5, uint16(n), mixed(n)))
	}
	for _, n := range []int{1 << 16, 1<<16 + 1, 1<<16 + 1000} {
		isNone(t, "too many bytes for a length", 5, laid(api.FLeaf, 5, uint16(n&0xFFFF), mixed(n)))
	}
}

// P5.1, P5.2: the check sum is of all bytes ahead of it, its highest byte first, and of nothing else.
func TestUnpackOfOtherSums(t *testing.T) {
	b := packed(t, api.FLeaf, 5, []byte("data"))
	body := b[:len(b)-4]
	sum := crc32.ChecksumIEEE(body)
	isFrame(t, "its sum", 5, binary.BigEndian.AppendUint32(bytes.Clone(body), sum), api.FLeaf, []byte("data"))
	isNone(t, "the lowest byte first", 5, binary.LittleEndian.AppendUint32(bytes.Clone(body), sum))
	for _, other := range []uint32{0, ^sum, sum + 1, sum - 1, crc32.ChecksumIEEE(body[1:]), crc32.ChecksumIEEE(body[:7]), crc32.ChecksumIEEE(body[7:]), crc32.ChecksumIEEE(b), crc32.Checksum(body, crc32.MakeTable(crc32.Castagnoli))} {
		isNone(t, "another sum", 5, binary.BigEndian.AppendUint32(bytes.Clone(body), other))
	}
}

// R4: neither the data nor the room behind it is changed or kept.
func TestPackKeepsNothing(t *testing.T) {
	for _, n := range []int{0, 1, 4, 1000} {
		all := mixed(3000)
		data := all[:n]
		b := packed(t, api.FLeaf, 5, data)
		if !bytes.Equal(all, mixed(3000)) {
			t.Fatalf("Pack of %d bytes changes what is handed in", n)
		}
		was := bytes.Clone(b)
		clear(all)
		if !bytes.Equal(b, was) {
			t.Errorf("a frame of %d bytes changes with the data that was handed in", n)
		}
		isFrame(t, "the frame", 5, b, api.FLeaf, mixed(3000)[:n])
		clear(b[:cap(b)])
		again := packed(t, api.FLeaf, 5, mixed(3000)[:n])
		if !bytes.Equal(again, was) || !bytes.Equal(all, make([]byte, 3000)) {
			t.Errorf("a frame of %d bytes, changed, changes others", n)
		}
	}
}

// R4
func TestUnpackKeepsNothing(t *testing.T) {
	for _, n := range []int{0, 1, 4, 1000} {
		all := append(packed(t, api.FInner, 5, mixed(n)), mixed(2000)...)
		was := bytes.Clone(all)
		b := all[: n+11 : n+500]
		_, data, _ := frame.Unpack(5, b)
		_, other, _ := frame.Unpack(5, b)
		isNone(t, "another place", 6, b)
		if !bytes.Equal(all, was) {
			t.Fatalf("Unpack of %d bytes changes what is handed in", n)
		}
		clear(data[:cap(data)])
		if !bytes.Equal(all, was) || !bytes.Equal(other, mixed(n)) {
			t.Errorf("data of %d bytes, changed, changes others", n)
		}
		clear(all)
		if !bytes.Equal(other, mixed(n)) {
			t.Errorf("data of %d bytes changes with what was handed in", n)
		}
	}
}

// R4
func TestNumbersAndReadKeepNothing(t *testing.T) {
	l := []int{1, 258, -1, 7, 8, 9}
	b := frame.Numbers(l[:2])
	if !slices.Equal(l, []int{1, 258, -1, 7, 8, 9}) {
		t.Errorf("Numbers changes what is handed in: %d", l)
	}
	clear(l)
	if !bytes.Equal(b, []byte{0, 0, 0, 1, 0, 0, 1, 2}) {
		t.Errorf("bytes change with the numbers that were handed in: %d", b)
	}
	clear(b[:cap(b)])
	if b := frame.Numbers([]int{1, 258}); !bytes.Equal(b, []byte{0, 0, 0, 1, 0, 0, 1, 2}) || !slices.Equal(l, make([]int, 6)) {
		t.Errorf("bytes, changed, change others: %d, %d", b, l)
	}

	all := []byte{0, 0, 0, 1, 0, 0, 1, 2, 99, 99, 99, 99}
	n, _ := frame.Read(all[:8])
	m, _ := frame.Read(all[:8])
	clear(n[:cap(n)])
	if !bytes.Equal(all, []byte{0, 0, 0, 1, 0, 0, 1, 2, 99, 99, 99, 99}) || !slices.Equal(m, []int{1, 258}) {
		t.Errorf("numbers, changed, change others: %d, %d", all, m)
	}
	clear(all)
	if !slices.Equal(m, []int{1, 258}) {
		t.Errorf("numbers change with the bytes that were handed in: %d", m)
	}
}

// R5: an answer hangs on nothing that was called ahead of it, and on no capacity.
func TestAnswersHangOnTheArgumentsAlone(t *testing.T) {
	want := packed(t, api.FLeaf, 5, []byte("data"))
	for range 3 {
		for _, room := range []int{4, 5, 8, 1000, 5000} {
			data := append(make([]byte, 0, room), "data"...)
			if b := packed(t, api.FLeaf, 5, data); !bytes.Equal(b, want) {
				t.Errorf("Pack of data with room for %d: % X", room, b)
			}
			isRefused(t, 9, 5, data)
			isFrame(t, "a frame with room behind it", 5, append(make([]byte, 0, room+20), want...), api.FLeaf, []byte("data"))
			isNone(t, "a frame with room behind it", 6, append(make([]byte, 0, room+20), want...))
		}
	}
}

// P5.3
func TestNumbersAtTheirEdges(t *testing.T) {
	for n, want := range map[int][4]byte{
		0: {0, 0, 0, 0}, 1: {0, 0, 0, 1}, 255: {0, 0, 0, 255}, 256: {0, 0, 1, 0}, 258: {0, 0, 1, 2}, 65535: {0, 0, 255, 255}, 65536: {0, 1, 0, 0},
		1 << 24: {1, 0, 0, 0}, 0x01020304: {1, 2, 3, 4}, 0x7F808182: {127, 128, 129, 130},
		math.MaxInt32: {127, 255, 255, 255}, 1 << 31: {128, 0, 0, 0}, 1<<31 + 1: {128, 0, 0, 1}, math.MaxUint32: {255, 255, 255, 255},
		1 << 32: {0, 0, 0, 0}, 1<<32 + 5: {0, 0, 0, 5}, 1<<33 - 1: {255, 255, 255, 255}, 0x0506070801020304: {1, 2, 3, 4},
		-1: {255, 255, 255, 255}, -2: {255, 255, 255, 254}, -256: {255, 255, 255, 0}, math.MinInt32: {128, 0, 0, 0}, -(1 << 31) - 1: {127, 255, 255, 255},
		-(1 << 32): {0, 0, 0, 0}, -(1 << 32) + 5: {0, 0, 0, 5}, math.MaxInt: {255, 255, 255, 255}, math.MinInt: {0, 0, 0, 0}, math.MinInt + 1: {0, 0, 0, 1},
	} {
		if b := frame.Numbers([]int{n}); !bytes.Equal(b, want[:]) {
			t.Errorf("Numbers(%d): %d, not %d", n, b, want)
		}
		if b := frame.Numbers([]int{7, n, 9}); !bytes.Equal(b, slices.Concat([]byte{0, 0, 0, 7}, want[:], []byte{0, 0, 0, 9})) {
			t.Errorf("Numbers(7 %d 9): %d", n, b)
		}
	}
}

// P5.3
func TestNumbersAndReadOfNone(t *testing.T) {
	if a, b := frame.Numbers(nil), frame.Numbers([]int{}); len(a) != 0 || len(b) != 0 {
		t.Errorf("Numbers of none: %d, %d", a, b)
	}
	for _, b := range [][]byte{nil, {}, make([]byte, 0, 9)} {
		if l, e := frame.Read(b); len(l) != 0 || e != api.OK {
			t.Errorf("Read of none: %d, %d", l, e)
		}
	}
}

// P5.3
func TestReadOfBytesByHand(t *testing.T) {
	for _, c := range []struct {
		b    []byte
		want []int
	}{
		{[]byte{0, 0, 0, 0}, []int{0}},
		{[]byte{0, 0, 0, 1, 0, 0, 1, 2}, []int{1, 258}},
		{[]byte{1, 2, 3, 4}, []int{0x01020304}},
		{[]byte{127, 255, 255, 255, 0, 0, 0, 0}, []int{math.MaxInt32, 0}},
		{[]byte{0, 128, 255, 254, 0, 0, 0, 128, 127, 128, 128, 128}, []int{0x0080FFFE, 128, 0x7F808080}},
	} {
		if l, e := frame.Read(c.b); !slices.Equal(l, c.want) || e != api.OK {
			t.Errorf("Read(%d): %d, %d, not %d", c.b, l, e, c.want)
		}
	}
}

// P5.3, R2: what can be read of the beginning is not told.
func TestReadOfLengthsThatAreNoMultipleOfFour(t *testing.T) {
	for n := range 100 {
		l, e := frame.Read(make([]byte, n))
		if n%4 == 0 && (len(l) != n/4 || e != api.OK) || n%4 != 0 && (len(l) != 0 || e != api.ErrFrame) {
			t.Errorf("Read of %d bytes: %d, %d", n, l, e)
		}
	}
	for _, n := range []int{4001, 4002, 4003} {
		if l, e := frame.Read(make([]byte, n, n+4)); len(l) != 0 || e != api.ErrFrame {
			t.Errorf("Read of %d bytes: %d numbers, %d", n, len(l), e)
		}
	}
}

// P5.3, R2: at each place, the first and the last one among them.
func TestReadOfNumbersAboveAll(t *testing.T) {
	for _, n := range []int{1 << 31, 1<<31 + 1, 0x81020304, math.MaxUint32 - 1, math.MaxUint32, -1, math.MinInt32} {
		for _, many := range []int{1, 2, 3, 250} {
			for at := range many {
				l := slices.Repeat([]int{math.MaxInt32}, many)
				l[at] = n
				if r, e := frame.Read(frame.Numbers(l)); len(r) != 0 || e != api.ErrFrame {
					t.Errorf("Read of %d numbers, %d at %d: %d numbers, %d", many, n, at, len(r), e)
				}
			}
		}
	}
}

// P5.3: numbers are read as they were laid; the others as they are modulo 2^32.
func TestNumbersAreReadAsTheyWereLaid(t *testing.T) {
	var rising []int
	for i := range 1000 {
		rising = append(rising, i*2147483)
	}
	for _, l := range [][]int{{0}, {math.MaxInt32}, {5, 4, 5, 0, 0}, places, rising, make([]int, 250), slices.Repeat([]int{math.MaxInt32}, 3000)} {
		b := frame.Numbers(l)
		if r, e := frame.Read(b); len(b) != 4*len(l) || !slices.Equal(r, l) || e != api.OK {
			t.Errorf("Read of Numbers(%d numbers): %d bytes, %d numbers, %d", len(l), len(b), len(r), e)
		}
	}
	if r, e := frame.Read(frame.Numbers([]int{1<<32 + 5, -(1 << 32), math.MinInt + 9})); !slices.Equal(r, []int{5, 0, 9}) || e != api.OK {
		t.Errorf("Read of numbers modulo 2^32: %d, %d", r, e)
	}
}

// P5.2, P5.3: a frame carries numbers.
func TestNumbersInAFrame(t *testing.T) {
	l := slices.Repeat([]int{0, 7, math.MaxInt32, 65536, 2}, 50)
	_, data, e := frame.Unpack(3, packed(t, api.FSpace, 3, frame.Numbers(l)))
	if r, f := frame.Read(data); !slices.Equal(r, l) || e != api.OK || f != api.OK {
		t.Errorf("numbers in a frame: %d, %d, %d", r, e, f)
	}
	isRefused(t, api.FSpace, 3, frame.Numbers(append(l, 1)))
}
