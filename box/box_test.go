package box_test

import (
	"bytes"
	"encoding/binary"
	"math"
	"math/rand"
	"slices"
	"testing"

	"kerbsuite/api"
	"kerbsuite/box"
)

// The keys below are written as numbers, so that the tests do not lean on package key.
const (
	long    api.Key = 1 << 56 // less than all long-term keys
	session api.Key = 2 << 56 // less than all session keys
)

// goodKeys are the edges of the valid keys.
var goodKeys = []api.Key{long + 1, long + 66, long + 0xffff_ffff, session + 1, session + 0x01020304, session + 0xffff_ffff}

// badKeys are numbers beside the valid keys.
var badKeys = []api.Key{0, 1, 66, 0xffff_ffff, long - 1, long, long + 1<<32, long + 1<<32 + 1, session - 1, session, session + 1<<32, session + 1<<55 + 1, 3 << 56, 3<<56 + 1, 66<<56 + 1, 0xff<<56 + 1, math.MaxInt64, 1 << 63, math.MaxUint64}

// badKinds are numbers beside the kinds, and those of which a byte or a word of 32 bits is a kind.
var badKinds = []int{0, -1, -10, 11, 12, 66, 255, 256, 257, 266, -255, 1 << 16, 1<<32 + 1, 1<<32 + 10, math.MaxInt, math.MinInt, math.MinInt + 1}

// join returns what the bytes of a box with these parts are, whether there is such a box or not.
func join(mark, kind byte, k api.Key, length int, body []byte) []byte {
	b := binary.BigEndian.AppendUint64([]byte{mark, kind}, uint64(k))
	return append(binary.BigEndian.AppendUint16(b, uint16(length)), body...)
}

// text returns n bytes that differ from those beside them.
func text(n int) []byte {
	b := make([]byte, n)
	for i := range b {
		b[i] = byte(i*7 + 66)
	}
	return b
}

// sizes are the lengths of bodies: the edges of one byte, and those of api.MaxBody.
var sizes = []int{0, 1, 2, 11, 12, 13, 65, 66, 127, 128, 254, 255, 256, 257, 511, 512, 767, 768, 998, 999, 1000}

// isKey says by its bytes whether k is valid.
func isKey(k api.Key) bool {
	return (k>>56 == 1 || k>>56 == 2) && k<<8>>40 == 0 && uint32(k) != 0
}

// split reads b as chapter 4 says, without package box.
func split(b []byte) (api.Box, int, api.Errno) {
	var none api.Box
	if len(b) < 12 {
		return none, 0, api.ErrTruncated
	}
	k := api.Key(binary.BigEndian.Uint64(b[2:]))
	length := int(binary.BigEndian.Uint16(b[10:]))
	if b[0] != 66 || b[1] < 1 || b[1] > 10 || !isKey(k) || length > 1000 {
		return none, 0, api.ErrSyntax
	}
	if len(b)-12 < length {
		return none, 0, api.ErrTruncated
	}
	return api.Box{Kind: int(b[1]), Key: k, Body: b[12:][:length]}, 12 + length, api.OK
}

func same(a, b api.Box) bool {
	return a.Kind == b.Kind && a.Key == b.Key && bytes.Equal(a.Body, b.Body)
}

// check compares Read, Is and Open of b with split.
func check(t *testing.T, b []byte) {
	t.Helper()
	want, wantEnd, wantError := split(b)
	x, end, e := box.Read(b)
	if !same(x, want) || end != wantEnd || e != wantError {
		t.Errorf("Read(%v) = %v, %d, %d, want %v, %d, %d", b, x, end, e, want, wantEnd, wantError)
	}
	exact := wantError == api.OK && wantEnd == len(b)
	if box.Is(b) != exact {
		t.Errorf("Is(%v) = %v", b, !exact)
	}
	for _, kind := range []int{want.Kind - 1, want.Kind, want.Kind + 1} {
		for _, k := range []api.Key{want.Key, want.Key ^ 1, want.Key ^ 3<<56, session + 1} {
			wantOpen := exact && kind == want.Kind && k == want.Key
			body, ok := box.Open(b, kind, k)
			if ok != wantOpen || ok && !bytes.Equal(body, want.Body) || !ok && len(body) != 0 {
				t.Errorf("Open(%v, %d, %#x) = %v, %v", b, kind, uint64(k), body, ok)
			}
		}
	}
}

// P4.1: the bytes of boxes.
func TestMake(t *testing.T) {
	tests := []struct {
		kind int
		k    api.Key
		body []byte
		want []byte
	}{
		{api.BoxTicket, session + 5, nil, []byte{66, 1, 2, 0, 0, 0, 0, 0, 0, 5, 0, 0}},
		{api.BoxTicket, session + 5, []byte{}, []byte{66, 1, 2, 0, 0, 0, 0, 0, 0, 5, 0, 0}},
		{api.BoxFiveReply, long + 0x12345678, []byte{9}, []byte{66, 10, 1, 0, 0, 0, 0x12, 0x34, 0x56, 0x78, 0, 1, 9}},
		{api.BoxAuth, long + 1, []byte("abc"), []byte{66, 2, 1, 0, 0, 0, 0, 0, 0, 1, 0, 3, 'a', 'b', 'c'}},
		{api.BoxFive, session + 0xffff_ffff, []byte{0, 255}, []byte{66, 9, 2, 0, 0, 0, 255, 255, 255, 255, 0, 2, 0, 255}},
		{api.BoxSafe, session + 1, text(255), slices.Concat([]byte{66, 6, 2, 0, 0, 0, 0, 0, 0, 1, 0, 255}, text(255))},
		{api.BoxSafe, session + 1, text(256), slices.Concat([]byte{66, 6, 2, 0, 0, 0, 0, 0, 0, 1, 1, 0}, text(256))},
		{api.BoxSafe, session + 1, text(1000), slices.Concat([]byte{66, 6, 2, 0, 0, 0, 0, 0, 0, 1, 3, 232}, text(1000))},
	}
	for _, x := range tests {
		if b, e := box.Make(x.kind, x.k, x.body); !bytes.Equal(b, x.want) || e != api.OK {
			t.Errorf("Make(%d, %#x, %v) = %v, %d, want %v", x.kind, uint64(x.k), x.body, b, e, x.want)
		}
	}
}

// P4.1: all kinds, the edges of keys and of lengths. P4.2 to P4.4: what was made is read and opened.
func TestMakeAll(t *testing.T) {
	for kind := 1; kind <= 10; kind++ {
		for _, k := range goodKeys {
			for _, n := range sizes {
				body := text(n)
				b, e := box.Make(kind, k, body)
				if !bytes.Equal(b, join(66, byte(kind), k, n, body)) || e != api.OK {
					t.Fatalf("Make(%d, %#x, %d bytes) = %v, %d", kind, uint64(k), n, b, e)
				}
				x, end, e := box.Read(b)
				if x.Kind != kind || x.Key != k || !bytes.Equal(x.Body, body) || end != 12+n || e != api.OK {
					t.Fatalf("Read(%v) = %v, %d, %d", b, x, end, e)
				}
				opened, ok := box.Open(b, kind, k)
				if !ok || !bytes.Equal(opened, body) || !box.Is(b) {
					t.Fatalf("Open(%v) = %v, %v", b, opened, ok)
				}
			}
		}
	}
}

// P4.1: each error, and their order.
func TestMakeErrors(t *testing.T) {
	for _, kind := range slices.Concat([]int{1, 10}, badKinds) {
		for _, k := range slices.Concat(goodKeys, badKeys) {
			for _, n := range []int{0, 1, 1000, 1001, 1012, 65535, 65536, 65537, 1 << 20} {
				want := api.OK
				switch {
				case kind != 1 && kind != 10:
					want = api.ErrRange
				case !isKey(k):
					want = api.ErrNullKey
				case n > 1000:
					want = api.ErrTooLong
				}
				b, e := box.Make(kind, k, make([]byte, n))
				if e != want || e != api.OK && len(b) != 0 || e == api.OK && len(b) != 12+n {
					t.Errorf("Make(%d, %#x, %d bytes) = %d bytes, %d, want %d", kind, uint64(k), n, len(b), e, want)
				}
			}
		}
	}
}

// P4.2: each error, and their order.
func TestReadErrors(t *testing.T) {
	tests := []struct {
		name string
		b    []byte
		want api.Errno
	}{
		{"nothing", nil, api.ErrTruncated},
		{"no bytes", []byte{}, api.ErrTruncated},
		{"11 bytes", join(66, 1, session+5, 0, nil)[:11], api.ErrTruncated},
		{"11 bytes of something else", bytes.Repeat([]byte{255}, 11), api.ErrTruncated},
		{"12 bytes of something else", bytes.Repeat([]byte{255}, 12), api.ErrSyntax},
		{"zeros", make([]byte, 100), api.ErrSyntax},
		{"an empty body", join(66, 1, session+5, 0, nil), api.OK},
		{"the least mark", join(0, 1, session+5, 0, nil), api.ErrSyntax},
		{"a mark too small", join(65, 1, session+5, 0, nil), api.ErrSyntax},
		{"a mark too great", join(67, 1, session+5, 0, nil), api.ErrSyntax},
		{"the kind 0", join(66, 0, session+5, 0, nil), api.ErrSyntax},
		{"the last kind", join(66, 10, session+5, 0, nil), api.OK},
		{"the kind 11", join(66, 11, session+5, 0, nil), api.ErrSyntax},
		{"the kind 255", join(66, 255, session+5, 0, nil), api.ErrSyntax},
		{"no key", join(66, 1, 0, 0, nil), api.ErrSyntax},
		{"a length too great, and a body", join(66, 1, session+5, 1001, text(1001)), api.ErrSyntax},
		{"a length too great, and no body", join(66, 1, session+5, 1001, nil), api.ErrSyntax},
		{"the greatest length, and a body", join(66, 1, session+5, 1000, text(1000)), api.OK},
		{"the greatest length, and no body", join(66, 1, session+5, 1000, nil), api.ErrTruncated},
		{"the greatest length, and a byte too few", join(66, 1, session+5, 1000, text(999)), api.ErrTruncated},
		{"two bytes all of which are set", join(66, 1, session+5, 65535, text(65535)), api.ErrSyntax},
		{"a length with its bytes exchanged", join(66, 1, session+5, 1<<8, text(1)), api.ErrTruncated},
		{"a body that is not complete, and another mark", join(65, 1, session+5, 2, text(1)), api.ErrSyntax},
		{"a body that is not complete, and the kind 0", join(66, 0, session+5, 2, text(1)), api.ErrSyntax},
		{"a body that is not complete, and no key", join(66, 1, session, 2, text(1)), api.ErrSyntax},
		{"a body that is not complete", join(66, 1, session+5, 2, text(1)), api.ErrTruncated},
	}
	for _, x := range tests {
		r, end, e := box.Read(x.b)
		if e != x.want || e != api.OK && (!same(r, api.Box{}) || end != 0) {
			t.Errorf("%s: Read = %v, %d, %d, want %d", x.name, r, end, e, x.want)
		}
		check(t, x.b)
	}
	for _, k := range slices.Concat(badKeys, goodKeys) {
		check(t, join(66, 1, k, 0, nil))
		check(t, join(66, 1, k, 3, text(3)))
	}
	for length := range 1 << 16 {
		check(t, join(66, 1, session+5, length, text(5)))
	}
}

// P4.2, P4.3: every beginning of a box, which is none.
func TestTruncated(t *testing.T) {
	for _, n := range []int{0, 1, 2, 300, 1000} {
		b := join(66, 3, session+5, n, text(n))
		for i := range b {
			if x, end, e := box.Read(b[:i]); !same(x, api.Box{}) || end != 0 || e != api.ErrTruncated {
				t.Errorf("Read of %d bytes of %d = %v, %d, %d", i, len(b), x, end, e)
			}
			check(t, b[:i])
			// what is behind the end of the slice does not count
			check(t, b[:i:i])
		}
		check(t, b)
	}
}

// P4.2, P4.3: bytes behind a box are not read, but make it no box.
func TestTrailing(t *testing.T) {
	for _, n := range []int{0, 1, 300, 999, 1000} {
		b := join(66, 3, session+5, n, text(n))
		for _, more := range [][]byte{{0}, {66}, {255}, text(12), b, slices.Concat(b, b), make([]byte, 5000)} {
			l := slices.Concat(b, more)
			x, end, e := box.Read(l)
			if x.Kind != 3 || x.Key != session+5 || !bytes.Equal(x.Body, text(n)) || end != len(b) || e != api.OK {
				t.Errorf("Read with %d bytes behind %d = %v, %d, %d", len(more), len(b), x, end, e)
			}
			if body, ok := box.Open(l, 3, session+5); ok || len(body) != 0 || box.Is(l) {
				t.Errorf("%d bytes behind %d: Open = %v, %v, Is %v", len(more), len(b), body, ok, box.Is(l))
			}
			check(t, l)
			check(t, slices.Concat(more, b))
		}
	}
}

// P4.2, P4.3: a box in which one byte was changed.
func TestChanged(t *testing.T) {
	for _, b := range [][]byte{
		join(66, 1, session+5, 0, nil),
		join(66, 10, long+1, 1, text(1)),
		join(66, 5, session+0x01010101, 256, text(256)),
		join(66, 9, long+0xffff_ffff, 1000, text(1000)),
	} {
		whole, _, _ := split(b)
		for i := range min(len(b), 20) {
			for c := range 256 {
				l := slices.Clone(b)
				l[i] = byte(c)
				check(t, l)
				body, ok := box.Open(l, whole.Kind, whole.Key)
				if changed := l[i] != b[i]; i < 12 && ok == changed || changed && ok && bytes.Equal(body, whole.Body) {
					t.Errorf("Open of a box with the byte %d at %d = %v, %v", c, i, body, ok)
				}
			}
		}
	}
}

// P4.3: a box is opened with its kind and its key, and with no others.
func TestOpen(t *testing.T) {
	b := join(66, 3, session+5, 3, []byte("abc"))
	tests := []struct {
		kind int
		k    api.Key
		want bool
	}{
		{3, session + 5, true},
		{2, session + 5, false},
		{4, session + 5, false},
		{0, session + 5, false},
		{-3, session + 5, false},
		{3 + 256, session + 5, false},
		{3 - 256, session + 5, false},
		{3 + 1<<32, session + 5, false},
		{math.MaxInt, session + 5, false},
		{math.MinInt, session + 5, false},
		{3, long + 5, false},
		{3, session + 4, false},
		{3, session + 6, false},
		{3, session, false},
		{3, session + 5 + 1<<32, false},
		{3, 5, false},
		{3, 0, false},
		{3, math.MaxUint64, false},
		{0, 0, false},
	}
	for _, x := range tests {
		body, ok := box.Open(b, x.kind, x.k)
		if ok != x.want || ok && string(body) != "abc" || !ok && len(body) != 0 {
			t.Errorf("Open(%v, %d, %#x) = %v, %v", b, x.kind, uint64(x.k), body, ok)
		}
	}
}

// P4.3: what is no box is not opened, not even with the kind and the key that stand in it.
func TestOpenNoBox(t *testing.T) {
	for _, kind := range slices.Concat([]int{1, 10}, badKinds) {
		for _, k := range slices.Concat(badKeys, []api.Key{session + 5}) {
			for _, b := range [][]byte{
				nil,
				{},
				{66},
				make([]byte, 12),
				join(0, byte(kind), k, 0, nil),
				join(66, 0, k, 0, nil),
				join(66, 11, k, 2, text(2)),
				join(66, byte(kind), k, 2, text(1)),
				join(66, byte(kind), k, 2, text(3)),
				join(66, byte(kind), k, 1001, text(1001)),
			} {
				if body, ok := box.Open(b, kind, k); ok || len(body) != 0 || box.Is(b) {
					t.Errorf("Open(%v, %d, %#x) = %v, %v, Is %v", b, kind, uint64(k), body, ok, box.Is(b))
				}
			}
		}
	}
	for _, k := range badKeys {
		if body, ok := box.Open(join(66, 1, k, 0, nil), 1, k); ok || len(body) != 0 {
			t.Errorf("a box with the key %#x was opened: %v", uint64(k), body)
		}
	}
}

// P4.2, P4.3: texts of bytes that are often a box, or nearly one.
func TestAny(t *testing.T) {
	r := rand.New(rand.NewSource(4))
	pick := func(often byte) byte {
		if r.Intn(12) > 0 {
			return often
		}
		return byte(r.Intn(256))
	}
	boxes := 0
	for range 50000 {
		b := []byte{pick(66), pick(byte(r.Intn(12))), pick(byte(r.Intn(4))), pick(0), pick(0), pick(0), pick(0), 1, 2, pick(3), pick(0), pick(byte(r.Intn(20)))}
		b = slices.Concat(b, text(r.Intn(20)))
		b = b[:len(b)-r.Intn(min(len(b), 4))]
		check(t, b)
		if box.Is(b) {
			boxes++
		}
	}
	if boxes < 200 {
		t.Errorf("only %d boxes were tried", boxes)
	}
}

// P4.4: only a box's own kind and key open it, and boxes that differ have different bytes.
func TestDifferent(t *testing.T) {
	var made []api.Box
	bodies := [][]byte{nil, {0}, {1}, {0, 0}, {0, 1}, {66, 1, 2, 0, 0, 0, 0, 0, 0, 5, 0, 0}, text(255), text(256), text(1000)}
	for kind := 1; kind <= 10; kind++ {
		for _, k := range goodKeys {
			for _, body := range bodies {
				made = append(made, api.Box{Kind: kind, Key: k, Body: body})
			}
		}
	}
	byBytes := map[string]api.Box{}
	for _, x := range made {
		b, e := box.Make(x.Kind, x.Key, x.Body)
		if other, found := byBytes[string(b)]; found || e != api.OK {
			t.Errorf("%v has the bytes of %v, %d", x, other, e)
		}
		byBytes[string(b)] = x
		for kind := range 12 {
			for _, k := range goodKeys {
				body, ok := box.Open(b, kind, k)
				if ok != (kind == x.Kind && k == x.Key) || ok && !bytes.Equal(body, x.Body) || !ok && len(body) != 0 {
					t.Errorf("Open(%v, %d, %#x) = %v, %v", b, kind, uint64(k), body, ok)
				}
			}
		}
	}
}

// P4.4: a box in a box, which has the same form.
func TestNested(t *testing.T) {
	inner, _ := box.Make(api.BoxTicket, long+1, []byte("ticket"))
	outer, e := box.Make(api.BoxReply, session+5, inner)
	if e != api.OK || !bytes.Equal(outer, join(66, 3, session+5, 18, join(66, 1, long+1, 6, []byte("ticket")))) {
		t.Fatalf("Make = %v, %d", outer, e)
	}
	if body, ok := box.Open(outer, api.BoxTicket, long+1); ok {
		t.Errorf("the outer box was opened as the inner one: %v", body)
	}
	body, ok := box.Open(outer, api.BoxReply, session+5)
	if !ok || !bytes.Equal(body, inner) || !box.Is(body) {
		t.Fatalf("Open = %v, %v", body, ok)
	}
	if body, ok := box.Open(body, api.BoxTicket, long+1); !ok || string(body) != "ticket" {
		t.Errorf("Open = %q, %v", body, ok)
	}
}

// spoil writes to b and to its spare capacity.
func spoil(b []byte) {
	for i := range b[:cap(b)] {
		b[:cap(b)][i] ^= 0xff
	}
}

// G2, and rule 7 of the language: the arguments stay, with their spare capacity, and results are new memory.
func TestPurity(t *testing.T) {
	for _, n := range []int{0, 1, 5, 1000} {
		store := slices.Concat(join(66, 3, session+5, n, text(n)), []byte{1, 2, 3, 4, 5})
		want := slices.Clone(store)
		for _, b := range [][]byte{store, store[: 12+n : 12+n], store[:12+n], store[:11+n]} {
			x, _, _ := box.Read(b)
			spoil(x.Body)
			body, _ := box.Open(b, 3, session+5)
			spoil(body)
			made, _ := box.Make(3, session+5, b[:n])
			spoil(made)
			made, _ = box.Make(3, session+5, nil)
			spoil(made)
			box.Is(b)
			if !bytes.Equal(store, want) {
				t.Fatalf("the arguments were changed: %v", store)
			}
		}
		if b, _ := box.Make(3, session+5, text(n)); !bytes.Equal(b, want[:12+n]) {
			t.Errorf("Make = %v", b)
		}
	}
}
