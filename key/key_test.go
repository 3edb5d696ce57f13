package key_test

import (
	"bytes"
	"encoding/binary"
	"math"
	"math/big"
	"slices"
	"testing"

	"kerbsuite/api"
	"kerbsuite/key"
)

// The keys below are written as numbers, so that the tests do not lean on Make.
const (
	long    api.Key = 1 << 56 // less than all long-term keys
	session api.Key = 2 << 56 // less than all session keys
)

// numbers are the edges of classes and serial numbers, what is close to them, and the edges of int.
func numbers() []int {
	var l []int
	for _, n := range []int{0, 1, 2, 3, 4, 128, 255, 256, 257, 258, 1000, math.MaxInt32, api.MaxSerial, 1 << 33, 1 << 40, 1 << 48, 1 << 55, 1 << 56, 1 << 57, 1 << 58, 1 << 62} {
		for d := -2; d <= 2; d++ {
			l = append(l, n+d, -n-d)
		}
	}
	return append(l, math.MaxInt, math.MaxInt-1, math.MinInt, math.MinInt+1)
}

func isClass(n int) bool { return n == 1 || n == 2 }

func isSerial(n int) bool { return n >= 1 && n <= 4294967295 }

// exact returns class * 2^56 + serial, whatever the numbers are.
func exact(class, serial int) *big.Int {
	n := new(big.Int).Lsh(big.NewInt(int64(class)), 56)
	return n.Add(n, big.NewInt(int64(serial)))
}

// P3.1: valid keys, and numbers of which there is no key.
func TestMake(t *testing.T) {
	tests := []struct {
		class, serial int
		want          api.Key
	}{
		{api.LongTerm, 1, 0x0100000000000001},
		{api.LongTerm, 2, 0x0100000000000002},
		{api.LongTerm, api.MaxSerial, 0x01000000ffffffff},
		{api.Session, 1, 0x0200000000000001},
		{api.Session, 0x12345678, 0x0200000012345678},
		{api.Session, api.MaxSerial, 0x02000000ffffffff},
		{api.LongTerm, 0, 0},
		{api.Session, 0, 0},
		{api.LongTerm, -1, 0},
		{api.Session, -1, 0},
		{api.LongTerm, api.MaxSerial + 1, 0},
		{api.Session, api.MaxSerial + 1, 0},
		{api.LongTerm, api.MaxSerial + 2, 0},
		{api.LongTerm, 1<<56 + 1, 0},
		{api.Session, 1 - 1<<56, 0},
		{0, 1, 0},
		{0, 1<<56 + 1, 0},
		{3, 1, 0},
		{3, 1 - 1<<56, 0},
		{-1, 1, 0},
		{256, 1, 0},
		{257, 1, 0},
		{258, api.MaxSerial, 0},
		{1<<32 + 1, 1, 0},
		{math.MaxInt, 1, 0},
		{math.MinInt, 1, 0},
		{math.MinInt + 1, 1, 0},
		{api.LongTerm, math.MaxInt, 0},
		{api.LongTerm, math.MinInt, 0},
		{api.Session, math.MinInt + 1, 0},
		{math.MinInt, math.MinInt, 0},
		{math.MaxInt, math.MaxInt, 0},
	}
	for _, x := range tests {
		if k := key.Make(x.class, x.serial); k != x.want {
			t.Errorf("Make(%d, %d) = %#x, want %#x", x.class, x.serial, uint64(k), uint64(x.want))
		}
	}
}

// P3.1: all pairs of numbers, with the exact sum and product; Class and Serial undo Make.
func TestMakeAll(t *testing.T) {
	for _, class := range numbers() {
		for _, serial := range numbers() {
			k := key.Make(class, serial)
			if !isClass(class) || !isSerial(serial) {
				if k != 0 {
					t.Errorf("Make(%d, %d) = %#x, want 0", class, serial, uint64(k))
				}
				continue
			}
			if new(big.Int).SetUint64(uint64(k)).Cmp(exact(class, serial)) != 0 {
				t.Errorf("Make(%d, %d) = %#x", class, serial, uint64(k))
			}
			if !key.Valid(k) || key.Class(k) != class || key.Serial(k) != serial {
				t.Errorf("Make(%d, %d): Valid %v, Class %d, Serial %d", class, serial, key.Valid(k), key.Class(k), key.Serial(k))
			}
		}
	}
}

// P3.1: valid keys, and numbers that are none.
func TestValid(t *testing.T) {
	tests := []struct {
		k             api.Key
		class, serial int // 0 if k is not valid
	}{
		{long + 1, 1, 1},
		{long + 0xffff_ffff, 1, 4294967295},
		{session + 1, 2, 1},
		{session + 5, 2, 5},
		{session + 0xffff_ffff, 2, 4294967295},
		{0, 0, 0},
		{1, 0, 0},
		{0xffff_ffff, 0, 0},
		{long - 1, 0, 0},
		{long, 0, 0},
		{long + 1<<32, 0, 0},
		{long + 1<<32 + 1, 0, 0},
		{long + 1<<55 + 1, 0, 0},
		{session - 1, 0, 0},
		{session, 0, 0},
		{session + 1<<32, 0, 0},
		{session + 1<<32 + 1, 0, 0},
		{session + 1<<55 + 1, 0, 0},
		{3 << 56, 0, 0},
		{3<<56 + 1, 0, 0},
		{4<<56 + 1, 0, 0},
		{0x81<<56 + 1, 0, 0},
		{0xff<<56 + 1, 0, 0},
		{math.MaxInt64, 0, 0},
		{1 << 63, 0, 0},
		{math.MaxUint64, 0, 0},
	}
	for _, x := range tests {
		if key.Valid(x.k) != (x.class != 0) || key.Class(x.k) != x.class || key.Serial(x.k) != x.serial {
			t.Errorf("%#x: Valid %v, Class %d, Serial %d, want %d, %d", uint64(x.k), key.Valid(x.k), key.Class(x.k), key.Serial(x.k), x.class, x.serial)
		}
	}
}

// keys are valid and other numbers: all first bytes, with the edges of what may stand behind them.
func keys() []api.Key {
	var l []api.Key
	for first := range api.Key(256) {
		for _, rest := range []api.Key{0, 1, 2, 0xff, 0x0102030405, 0x01020304, 1<<32 - 2, 1<<32 - 1, 1 << 32, 1<<32 + 1, 1 << 40, 1<<48 + 1, 1 << 55, 1<<56 - 1} {
			l = append(l, first<<56+rest)
		}
	}
	return l
}

// valid says by the bytes of k whether k is valid.
func valid(k api.Key) bool {
	b := binary.BigEndian.AppendUint64(nil, uint64(k))
	return (b[0] == 1 || b[0] == 2) && bytes.Equal(b[1:4], []byte{0, 0, 0}) && !bytes.Equal(b[4:], []byte{0, 0, 0, 0})
}

// P3.1: whatever the first byte is; Make undoes Class and Serial of a valid key.
func TestValidAll(t *testing.T) {
	for _, k := range keys() {
		class, serial := key.Class(k), key.Serial(k)
		if key.Valid(k) != valid(k) {
			t.Errorf("Valid(%#x) = %v", uint64(k), key.Valid(k))
		}
		if valid(k) {
			if class != int(k>>56) || serial != int(uint32(k)) || key.Make(class, serial) != k {
				t.Errorf("Class and Serial of %#x are %d and %d", uint64(k), class, serial)
			}
		} else if class != 0 || serial != 0 {
			t.Errorf("Class and Serial of %#x are %d and %d, want 0", uint64(k), class, serial)
		}
	}
}

// P3.2: the most significant byte is the first one; a number that is no key has bytes, too, but is not read.
func TestBytes(t *testing.T) {
	tests := []struct {
		k    api.Key
		want []byte
		ok   bool
	}{
		{long + 1, []byte{1, 0, 0, 0, 0, 0, 0, 1}, true},
		{session + 1, []byte{2, 0, 0, 0, 0, 0, 0, 1}, true},
		{session + 0x12345678, []byte{2, 0, 0, 0, 0x12, 0x34, 0x56, 0x78}, true},
		{long + 0xffff_ffff, []byte{1, 0, 0, 0, 0xff, 0xff, 0xff, 0xff}, true},
		{session + 0xffff_ffff, []byte{2, 0, 0, 0, 0xff, 0xff, 0xff, 0xff}, true},
		{0, []byte{0, 0, 0, 0, 0, 0, 0, 0}, false},
		{1, []byte{0, 0, 0, 0, 0, 0, 0, 1}, false},
		{long, []byte{1, 0, 0, 0, 0, 0, 0, 0}, false},
		{session, []byte{2, 0, 0, 0, 0, 0, 0, 0}, false},
		{long + 1<<32, []byte{1, 0, 0, 1, 0, 0, 0, 0}, false},
		{long + 1<<32 + 1, []byte{1, 0, 0, 1, 0, 0, 0, 1}, false},
		{3<<56 + 1, []byte{3, 0, 0, 0, 0, 0, 0, 1}, false},
		{0x0807060504030201, []byte{8, 7, 6, 5, 4, 3, 2, 1}, false},
		{math.MaxUint64, []byte{255, 255, 255, 255, 255, 255, 255, 255}, false},
	}
	for _, x := range tests {
		if b := key.Bytes(x.k); !bytes.Equal(b, x.want) {
			t.Errorf("Bytes(%#x) = %v, want %v", uint64(x.k), b, x.want)
		}
		want := api.Key(0)
		if x.ok {
			want = x.k
		}
		if k, ok := key.Read(x.want); k != want || ok != x.ok {
			t.Errorf("Read(%v) = %#x, %v, want %#x, %v", x.want, uint64(k), ok, uint64(want), x.ok)
		}
	}
}

// P3.2: Read undoes Bytes of valid keys, and of no others.
func TestReadAll(t *testing.T) {
	for _, k := range keys() {
		b := key.Bytes(k)
		if !bytes.Equal(b, binary.BigEndian.AppendUint64(nil, uint64(k))) {
			t.Errorf("Bytes(%#x) = %v", uint64(k), b)
		}
		want := api.Key(0)
		if valid(k) {
			want = k
		}
		if r, ok := key.Read(b); r != want || ok != valid(k) {
			t.Errorf("Read(Bytes(%#x)) = %#x, %v", uint64(k), uint64(r), ok)
		}
	}
}

// P3.2: the bytes of a key with something in front of or behind them, or only some of them.
func TestReadLengths(t *testing.T) {
	for _, k := range []api.Key{long + 1, session + 1, long + 0x01010101, session + 0x02020202, session + 0xffff_ffff} {
		b := binary.BigEndian.AppendUint64(nil, uint64(k))
		for from := range len(b) + 1 {
			for to := from; to <= len(b); to++ {
				r, ok := key.Read(b[from:to])
				if whole := to-from == len(b); ok != whole || !whole && r != 0 {
					t.Errorf("Read(%v) = %#x, %v", b[from:to], uint64(r), ok)
				}
			}
		}
		for n := 1; n <= 20; n++ {
			for _, c := range []byte{0, 1, 2, 255} {
				more := bytes.Repeat([]byte{c}, n)
				for _, l := range [][]byte{slices.Concat(b, more), slices.Concat(more, b)} {
					if r, ok := key.Read(l); r != 0 || ok {
						t.Errorf("Read(%v) = %#x, %v", l, uint64(r), ok)
					}
				}
			}
		}
	}
	for _, b := range [][]byte{nil, {}, make([]byte, 100000)} {
		if r, ok := key.Read(b); r != 0 || ok {
			t.Errorf("Read of %d bytes = %#x, %v", len(b), uint64(r), ok)
		}
	}
}

// P3.3: in any list, wherever k stands.
func TestHas(t *testing.T) {
	tests := []struct {
		l    []api.Key
		k    api.Key
		want bool
	}{
		{nil, 0, false},
		{[]api.Key{}, 0, false},
		{nil, session + 1, false},
		{[]api.Key{}, session + 1, false},
		{[]api.Key{session + 1}, session + 1, true},
		{[]api.Key{session + 1}, session + 2, false},
		{[]api.Key{session + 1}, long + 1, false},
		{[]api.Key{session + 1}, 0, false},
		{[]api.Key{long + 1, long + 3, session + 1}, long + 1, true},
		{[]api.Key{long + 1, long + 3, session + 1}, long + 2, false},
		{[]api.Key{long + 1, long + 3, session + 1}, long + 3, true},
		{[]api.Key{long + 1, long + 3, session + 1}, session + 1, true},
		{[]api.Key{long + 1, long + 3, session + 1}, session + 3, false},
		// a list that is not ascending, or contains an element twice
		{[]api.Key{session + 9, session + 5, long + 7}, session + 9, true},
		{[]api.Key{session + 9, session + 5, long + 7}, session + 5, true},
		{[]api.Key{session + 9, session + 5, long + 7}, long + 7, true},
		{[]api.Key{session + 9, session + 5, long + 7}, session + 7, false},
		{[]api.Key{session + 9, session + 9}, session + 9, true},
		// numbers that are no keys
		{[]api.Key{0, 7, math.MaxUint64}, 0, true},
		{[]api.Key{0, 7, math.MaxUint64}, math.MaxUint64, true},
		{[]api.Key{0, 7, math.MaxUint64}, 8, false},
	}
	for _, x := range tests {
		if got := key.Has(x.l, x.k); got != x.want {
			t.Errorf("Has(%x, %#x) = %v", x.l, uint64(x.k), got)
		}
	}
}

// P3.3: in front of, between, equal to and behind the elements; k is added once, and so are elements that l has twice.
func TestAdd(t *testing.T) {
	a, b, c, d := long+1, long+0xffff_ffff, session+1, session+2
	tests := []struct {
		l    []api.Key
		k    api.Key
		want []api.Key
	}{
		{nil, a, []api.Key{a}},
		{[]api.Key{}, a, []api.Key{a}},
		{[]api.Key{a}, a, []api.Key{a}},
		{[]api.Key{b}, a, []api.Key{a, b}},
		{[]api.Key{a}, b, []api.Key{a, b}},
		{[]api.Key{b, c, d}, a, []api.Key{a, b, c, d}},
		{[]api.Key{a, c, d}, b, []api.Key{a, b, c, d}},
		{[]api.Key{a, b, d}, c, []api.Key{a, b, c, d}},
		{[]api.Key{a, b, c}, d, []api.Key{a, b, c, d}},
		{[]api.Key{a, b, c, d}, a, []api.Key{a, b, c, d}},
		{[]api.Key{a, b, c, d}, c, []api.Key{a, b, c, d}},
		{[]api.Key{a, b, c, d}, d, []api.Key{a, b, c, d}},
		{[]api.Key{a, a, b, b, b, d, d}, c, []api.Key{a, b, c, d}},
		{[]api.Key{a, a, b, b, b, d, d}, b, []api.Key{a, b, d}},
		{[]api.Key{a, a}, a, []api.Key{a}},
		// numbers that are no keys
		{nil, 0, []api.Key{0}},
		{[]api.Key{a}, 0, []api.Key{0, a}},
		{[]api.Key{0, a}, 0, []api.Key{0, a}},
		{[]api.Key{0, a, math.MaxUint64}, 1 << 63, []api.Key{0, a, 1 << 63, math.MaxUint64}},
	}
	for _, x := range tests {
		if got := key.Add(x.l, x.k); !slices.Equal(got, x.want) {
			t.Errorf("Add(%x, %#x) = %x, want %x", x.l, uint64(x.k), got, x.want)
		}
	}
}

// P3.3: any order of adding leads to the same list, which has exactly what was added.
func TestAddOrders(t *testing.T) {
	want := []api.Key{long + 2, long + 4, long + 9, session + 1, session + 4, session + 8, session + 0xffff_ffff}
	for step := 1; step < len(want); step++ {
		var l []api.Key
		for i := range 2 * len(want) {
			k := want[i*step%len(want)]
			l = key.Add(l, k)
			if !key.Has(l, k) {
				t.Fatalf("Add(.., %#x) = %x", uint64(k), l)
			}
			if i < len(want)-1 && len(l) != i+1 {
				t.Fatalf("after %d keys: %x", i+1, l)
			}
		}
		if !slices.Equal(l, want) {
			t.Errorf("with the step %d: %x", step, l)
		}
	}
}

// P3.4: the keys that are used, the wanted number and the turn back to the least one.
func TestDraw(t *testing.T) {
	last := session + 0xffff_ffff
	tests := []struct {
		used []api.Key
		want int
		k    api.Key
	}{
		{nil, 1, session + 1},
		{[]api.Key{}, 5, session + 5},
		{[]api.Key{session + 5, session + 6}, 5, session + 7},
		{[]api.Key{session + 5, session + 6}, 4, session + 4},
		{[]api.Key{session + 5, session + 6}, 6, session + 7},
		{[]api.Key{session + 5, session + 6}, 7, session + 7},
		{[]api.Key{session + 5, session + 7}, 5, session + 6},
		{[]api.Key{session + 7, session + 5, session + 6, session + 5}, 5, session + 8},
		{[]api.Key{session + 1, session + 2, session + 4}, 1, session + 3},
		// keys of the other class and numbers that are no keys do not count
		{[]api.Key{long + 5, long + 6}, 5, session + 5},
		{[]api.Key{0, 5, session, session + 1<<32 + 5, 3<<56 + 5, math.MaxUint64}, 5, session + 5},
		// wants that count as 1
		{nil, 0, session + 1},
		{nil, -1, session + 1},
		{nil, -5, session + 1},
		{nil, api.MaxSerial + 1, session + 1},
		{nil, api.MaxSerial + 5, session + 1},
		{nil, 1<<56 + 5, session + 1},
		{nil, math.MaxInt, session + 1},
		{nil, math.MinInt, session + 1},
		{[]api.Key{session + 1, session + 2}, 0, session + 3},
		{[]api.Key{session + 1, session + 2}, api.MaxSerial + 1, session + 3},
		{[]api.Key{session + 1, session + 2}, math.MinInt, session + 3},
		// the greatest serial number, and the least one if none from want on is free
		{nil, api.MaxSerial, last},
		{nil, api.MaxSerial - 1, last - 1},
		{[]api.Key{last - 1}, api.MaxSerial - 1, last},
		{[]api.Key{last}, api.MaxSerial, session + 1},
		{[]api.Key{last}, api.MaxSerial - 1, last - 1},
		{[]api.Key{last - 1, last}, api.MaxSerial - 1, session + 1},
		{[]api.Key{session + 1, last - 1, last}, api.MaxSerial - 1, session + 2},
		{[]api.Key{session + 1, session + 2, session + 4, last}, api.MaxSerial, session + 3},
		{[]api.Key{session + 2, last}, api.MaxSerial, session + 1},
		{[]api.Key{long + 1, last}, api.MaxSerial, session + 1},
		{[]api.Key{long + 0xffff_ffff}, api.MaxSerial, last},
	}
	for _, x := range tests {
		if k, ok := key.Draw(x.used, api.Session, x.want); k != x.k || !ok {
			t.Errorf("Draw(%x, Session, %d) = %#x, %v, want %#x", x.used, x.want, uint64(k), ok, uint64(x.k))
		}
		// the same with the classes exchanged
		if k, ok := key.Draw(other(x.used), api.LongTerm, x.want); k != other([]api.Key{x.k})[0] || !ok {
			t.Errorf("Draw(%x, LongTerm, %d) = %#x, %v", other(x.used), x.want, uint64(k), ok)
		}
	}
}

// other returns the keys of l with the classes exchanged.
func other(l []api.Key) []api.Key {
	var r []api.Key
	for _, k := range l {
		if c := k >> 56; c == 1 || c == 2 {
			k += session + long - 2*c<<56
		}
		r = append(r, k)
	}
	return r
}

// P3.4: there is no key of another class.
func TestDrawClasses(t *testing.T) {
	for _, class := range numbers() {
		for _, used := range [][]api.Key{nil, {}, {long + 1, session + 1}} {
			for _, want := range []int{math.MinInt, 0, 1, 5, api.MaxSerial, api.MaxSerial + 1, math.MaxInt} {
				k, ok := key.Draw(used, class, want)
				if ok != isClass(class) || !ok && k != 0 || ok && key.Class(k) != class {
					t.Errorf("Draw(%x, %d, %d) = %#x, %v", used, class, want, uint64(k), ok)
				}
			}
		}
	}
}

// drawByHand looks for the key of P3.4 among these serial numbers, which are ascending.
func drawByHand(used []api.Key, first api.Key, serials []int, want int) api.Key {
	if !isSerial(want) {
		want = 1
	}
	var free []int
	for _, s := range serials {
		if !slices.Contains(used, first+api.Key(s)) {
			free = append(free, s)
		}
	}
	for _, s := range free {
		if s >= want {
			return first + api.Key(s)
		}
	}
	return first + api.Key(free[0])
}

// P3.4: all sets of used keys at both ends of the serial numbers, with all wants that are near.
func TestDrawAllNear(t *testing.T) {
	top := api.MaxSerial
	serials := []int{1, 2, 3, 4, 5, top - 3, top - 2, top - 1, top}
	wants := append([]int{math.MinInt, -1, 0, top + 1, math.MaxInt}, serials...)
	for set := range 1 << len(serials) {
		if set&(1<<4) != 0 {
			continue // 5 stays free, and nothing is said about the many numbers between 5 and the top
		}
		var used []api.Key
		for i, s := range serials {
			if set&(1<<i) != 0 {
				used = append(used, session+api.Key(s))
			} else {
				used = append(used, long+api.Key(s))
			}
		}
		for _, want := range wants {
			k, ok := key.Draw(used, api.Session, want)
			if w := drawByHand(used, session, serials, want); k != w || !ok {
				t.Fatalf("Draw(%x, Session, %d) = %#x, %v, want %#x", used, want, uint64(k), ok, uint64(w))
			}
		}
	}
}

// P3.4: many used keys, in a row from want on or in front of the turn.
func TestDrawMany(t *testing.T) {
	const n = 100000
	var used []api.Key
	for i := range api.Key(n) {
		used = append(used, session+0xffff_ffff-i, session+1+i, long+1+i)
	}
	for _, x := range []struct {
		class, want int
		k           api.Key
	}{
		{api.Session, 1, session + n + 1},
		{api.Session, n, session + n + 1},
		{api.Session, n + 2, session + n + 2},
		{api.Session, api.MaxSerial, session + n + 1},
		{api.Session, api.MaxSerial - n + 1, session + n + 1},
		{api.Session, api.MaxSerial - n, session + 0xffff_ffff - n},
		{api.LongTerm, 1, long + n + 1},
		{api.LongTerm, api.MaxSerial, long + 0xffff_ffff},
	} {
		if k, ok := key.Draw(used, x.class, x.want); k != x.k || !ok {
			t.Errorf("Draw(.., %d, %d) = %#x, %v, want %#x", x.class, x.want, uint64(k), ok, uint64(x.k))
		}
	}
}

// P3.5: different classes or serial numbers, different keys, different bytes.
func TestDifferent(t *testing.T) {
	classes := []int{api.LongTerm, api.Session}
	serials := []int{1, 2, 3, 255, 256, 257, 65535, 65536, 1 << 24, math.MaxInt32, math.MaxInt32 + 1, api.MaxSerial - 1, api.MaxSerial}
	type pair struct{ class, serial int }
	byKey := map[api.Key]pair{}
	byBytes := map[string]pair{}
	for _, class := range classes {
		for _, serial := range serials {
			p := pair{class, serial}
			k := key.Make(class, serial)
			b := string(key.Bytes(k))
			if q, found := byKey[k]; found {
				t.Errorf("%v and %v have the key %#x", p, q, uint64(k))
			}
			if q, found := byBytes[b]; found {
				t.Errorf("%v and %v have the bytes %q", p, q, b)
			}
			byKey[k], byBytes[b] = p, p
		}
	}
}

// P3.5: drawn again and again, with the drawn keys added to used, all keys are different.
func TestDrawAgain(t *testing.T) {
	wants := []int{5, 5, 1, api.MaxSerial, api.MaxSerial, 0, -1, api.MaxSerial - 1, api.MaxSerial + 1, 7, math.MaxInt, 5}
	var used []api.Key
	seen := map[api.Key]bool{}
	for i := range 600 {
		class := []int{api.Session, api.LongTerm, api.Session}[i%3]
		want := wants[i%len(wants)]
		k, ok := key.Draw(used, class, want)
		if !ok || !key.Valid(k) || key.Class(k) != class || seen[k] || key.Has(used, k) {
			t.Fatalf("Draw(%x, %d, %d) = %#x, %v", used, class, want, uint64(k), ok)
		}
		seen[k] = true
		used = key.Add(used, k)
		if len(used) != i+1 || !slices.IsSorted(used) {
			t.Fatalf("after %d keys: %x", i+1, used)
		}
	}
}

// G1: a list that is not ascending is not expected, but Add returns.
func TestAddUnexpected(t *testing.T) {
	l := []api.Key{session + 9, long + 1, 0, session + 9, math.MaxUint64, long + 1}
	for _, k := range append(slices.Clone(l), session+5, 1) {
		key.Add(l, k)
	}
}

// G2, and rule 7 of the language: the arguments stay, with their spare capacity, and results are new memory.
func TestPurity(t *testing.T) {
	store := []api.Key{long + 1, long + 1, long + 3, session + 5, 77, 78, 79}
	want := slices.Clone(store)
	for n := range 5 {
		l := store[:n]
		for _, k := range []api.Key{0, long + 1, long + 2, long + 3, session + 5, session + 9} {
			r := key.Add(l, k)
			key.Has(l, k)
			key.Draw(l, api.LongTerm, 1)
			key.Draw(l, api.Session, 5)
			for i := range r[:cap(r)] {
				r[:cap(r)][i] = math.MaxUint64
			}
			if !slices.Equal(store, want) {
				t.Fatalf("Add or Draw with %d elements and %#x changed them: %x", n, uint64(k), store)
			}
		}
	}
	b := []byte{2, 0, 0, 0, 0, 0, 0, 1, 9}
	key.Read(b[:8])
	if !bytes.Equal(b, []byte{2, 0, 0, 0, 0, 0, 0, 1, 9}) {
		t.Errorf("Read changed its bytes: %v", b)
	}
	key.Bytes(session + 1)[7] = 99
	if b := key.Bytes(session + 1); b[7] != 1 {
		t.Errorf("Bytes = %v", b)
	}
}
