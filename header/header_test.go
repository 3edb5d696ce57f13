package header_test

import (
	"bytes"
	"math"
	"math/rand"
	"slices"
	"testing"

	"kerbsuite/api"
	"kerbsuite/header"
	"kerbsuite/sample"
)

// orders are the byte orders: little says which.
var orders = []bool{false, true}

// headers are the second bytes of the headers of all types, in big-endian and in little-endian order.
var headers = map[int][2]byte{
	api.MsgKdcRequest: {2, 3},
	api.MsgKdcReply:   {4, 5},
	api.MsgApRequest:  {6, 7},
	api.MsgApMutual:   {8, 9},
	api.MsgError:      {10, 11},
	api.MsgPrivate:    {12, 13},
	api.MsgSafe:       {14, 15},
	api.MsgAnswer:     {16, 17},
	api.MsgKa:         {18, 19},
	api.MsgFive:       {20, 21},
}

// types returns all types of messages, the first one first.
func types() []int {
	return []int{
		api.MsgKdcRequest, api.MsgKdcReply, api.MsgApRequest, api.MsgApMutual, api.MsgError,
		api.MsgPrivate, api.MsgSafe, api.MsgAnswer, api.MsgKa, api.MsgFive,
	}
}

// noTypes returns numbers that are no types of messages, among them each whose remainder is one.
func noTypes() []int {
	l := []int{0, -1, -2, -3, 11, 12, 13, 20, 21, 22, 127, 128, 255, 256, 1 << 31, math.MaxInt - 1, math.MaxInt, math.MinInt, math.MinInt + 1}
	for _, kind := range types() {
		l = append(l, -kind)
		for _, bits := range []int{7, 8, 15, 16, 31, 32, 62} {
			l = append(l, kind+1<<bits, kind-1<<bits)
		}
		l = append(l, kind+math.MinInt)
	}
	for n := -300; n <= 300; n++ {
		if n < 1 || n > 10 {
			l = append(l, n)
		}
	}
	return l
}

// message returns the first two bytes of a message, by the table.
func message(kind int, little bool) []byte {
	if little {
		return []byte{4, headers[kind][1]}
	}
	return []byte{4, headers[kind][0]}
}

// behinds are texts of bytes behind a header.
var behinds = [][]byte{nil, {0}, {255}, {4, 3}, {0, 0, 0, 0, 0, 0}, []byte("alice\x00\x00ATHENA\x00"), bytes.Repeat([]byte{4, 7, 255}, 400)}

// readByHand finds the header of b in the table.
func readByHand(b []byte) (int, bool, api.Errno) {
	if len(b) < 2 {
		return 0, false, api.ErrTruncated
	}
	if b[0] != 4 {
		return 0, false, api.ErrVersion
	}
	for kind, second := range headers {
		for i, little := range orders {
			if second[i] == b[1] {
				return kind, little, api.OK
			}
		}
	}
	return 0, false, api.ErrMsgType
}

// isByHand does what P8.2 says, with readByHand.
func isByHand(b []byte, kinds []int) (bool, api.Errno) {
	kind, little, e := readByHand(b)
	if e != api.OK {
		return false, e
	}
	if slices.Index(kinds, kind) < 0 {
		return false, api.ErrMsgType
	}
	return little, api.OK
}

// tryRead compares Read with readByHand.
func tryRead(t *testing.T, b []byte) {
	t.Helper()
	kind, little, e := header.Read(b)
	wantKind, wantLittle, want := readByHand(b)
	if kind != wantKind || little != wantLittle || e != want {
		t.Errorf("Read(%v) = %d, %v, %d, want %d, %v, %d", b, kind, little, e, wantKind, wantLittle, want)
	}
}

// tryIs compares Is with isByHand.
func tryIs(t *testing.T, b []byte, kinds ...int) {
	t.Helper()
	little, e := header.Is(b, kinds...)
	wantLittle, want := isByHand(b, kinds)
	if little != wantLittle || e != want {
		t.Errorf("Is(%v, %v) = %v, %d, want %v, %d", b, kinds, little, e, wantLittle, want)
	}
}

// P8.1: the bytes of the headers of all types.
func TestPut(t *testing.T) {
	if b := header.Put(api.MsgApRequest, true); !bytes.Equal(b, []byte{4, 7}) {
		t.Errorf("the chapter's example: Put(api.MsgApRequest, true) = %v, want 4 and 7", b)
	}
	for _, kind := range types() {
		for _, little := range orders {
			if b, want := header.Put(kind, little), message(kind, little); !bytes.Equal(b, want) {
				t.Errorf("Put(%d, %v) = %v, want %v", kind, little, b, want)
			}
		}
	}
}

// P8.1: no bytes for numbers that are no types.
func TestPutNoType(t *testing.T) {
	for _, kind := range noTypes() {
		for _, little := range orders {
			if b := header.Put(kind, little); len(b) != 0 {
				t.Errorf("Put(%d, %v) = %v, want no bytes", kind, little, b)
			}
		}
	}
}

// P8.1: what Read says about headers, and about texts that begin with none, in the order of the errors.
func TestRead(t *testing.T) {
	tests := []struct {
		b      []byte
		kind   int
		little bool
		e      api.Errno
	}{
		{[]byte{4, 2}, api.MsgKdcRequest, false, api.OK},
		{[]byte{4, 3}, api.MsgKdcRequest, true, api.OK},
		{[]byte{4, 7}, api.MsgApRequest, true, api.OK},
		{[]byte{4, 20}, api.MsgFive, false, api.OK},
		{[]byte{4, 21}, api.MsgFive, true, api.OK},
		{[]byte{4, 8, 0, 99}, api.MsgApMutual, false, api.OK},
		{nil, 0, false, api.ErrTruncated},
		{[]byte{}, 0, false, api.ErrTruncated},
		{[]byte{4}, 0, false, api.ErrTruncated},
		{[]byte{5}, 0, false, api.ErrTruncated}, // not ErrVersion, which stands behind it
		{[]byte{0}, 0, false, api.ErrTruncated},
		{[]byte{3, 2}, 0, false, api.ErrVersion},
		{[]byte{5, 2}, 0, false, api.ErrVersion},
		{[]byte{0, 7}, 0, false, api.ErrVersion},
		{[]byte{255, 7, 4, 7}, 0, false, api.ErrVersion},
		{[]byte{5, 0}, 0, false, api.ErrVersion}, // not ErrMsgType, which stands behind it
		{[]byte{5, 22}, 0, false, api.ErrVersion},
		{[]byte{2, 4}, 0, false, api.ErrVersion},
		{[]byte{4, 0}, 0, false, api.ErrMsgType},
		{[]byte{4, 1}, 0, false, api.ErrMsgType},
		{[]byte{4, 22}, 0, false, api.ErrMsgType},
		{[]byte{4, 23}, 0, false, api.ErrMsgType},
		{[]byte{4, 128 + 6}, 0, false, api.ErrMsgType},
		{[]byte{4, 255, 4, 7}, 0, false, api.ErrMsgType},
	}
	for _, x := range tests {
		kind, little, e := header.Read(x.b)
		if kind != x.kind || little != x.little || e != x.e {
			t.Errorf("Read(%v) = %d, %v, %d, want %d, %v, %d", x.b, kind, little, e, x.kind, x.little, x.e)
		}
	}
}

// P8.1: all texts of one and of two bytes, alone and with bytes behind them.
func TestReadAll(t *testing.T) {
	for first := range 256 {
		tryRead(t, []byte{byte(first)})
		for second := range 256 {
			for _, behind := range behinds {
				tryRead(t, slices.Concat([]byte{byte(first), byte(second)}, behind))
			}
		}
	}
}

// P8.2: what Is says about some messages and types.
func TestIs(t *testing.T) {
	request, mutual := []byte{4, 7, 1, 2}, []byte{4, 8, 1, 2}
	tests := []struct {
		b      []byte
		kinds  []int
		little bool
		e      api.Errno
	}{
		{request, []int{api.MsgApRequest}, true, api.OK},
		{mutual, []int{api.MsgApMutual}, false, api.OK},
		{request, []int{api.MsgApRequest, api.MsgApMutual}, true, api.OK},
		{mutual, []int{api.MsgApRequest, api.MsgApMutual}, false, api.OK},
		{request, []int{0, -1, math.MaxInt, 11, api.MsgApRequest}, true, api.OK},
		{request, []int{api.MsgApRequest, api.MsgApRequest}, true, api.OK},
		{request, nil, false, api.ErrMsgType},
		{request, []int{}, false, api.ErrMsgType},
		{request, []int{api.MsgApMutual}, false, api.ErrMsgType},
		{mutual, []int{api.MsgApRequest}, false, api.ErrMsgType},
		{request, []int{api.MsgKdcRequest, api.MsgKdcReply, api.MsgApMutual, api.MsgFive}, false, api.ErrMsgType},
		{request, []int{0, 6, 7, -3, 3 + 128, 3 + 256, 3 - 128, 3 - 256, 3 + 1<<32}, false, api.ErrMsgType},
		{nil, []int{api.MsgApRequest}, false, api.ErrTruncated},
		{[]byte{4}, []int{api.MsgApRequest}, false, api.ErrTruncated},
		{[]byte{4}, nil, false, api.ErrTruncated}, // the errors of Read stand in front of that of Is
		{[]byte{5}, nil, false, api.ErrTruncated},
		{[]byte{5, 7}, []int{api.MsgApRequest}, false, api.ErrVersion},
		{[]byte{5, 7}, nil, false, api.ErrVersion},
		{[]byte{5, 0}, []int{0}, false, api.ErrVersion},
		{[]byte{4, 0}, []int{0}, false, api.ErrMsgType}, // a given number that is no type is that of no message
		{[]byte{4, 1}, []int{0}, false, api.ErrMsgType},
		{[]byte{4, 23}, []int{11}, false, api.ErrMsgType},
		{[]byte{4, 255}, []int{127}, false, api.ErrMsgType},
	}
	for _, x := range tests {
		if little, e := header.Is(x.b, x.kinds...); little != x.little || e != x.e {
			t.Errorf("Is(%v, %v) = %v, %d, want %v, %d", x.b, x.kinds, little, e, x.little, x.e)
		}
	}
}

// P8.2: each message and each given type, alone and in each place among other ones.
func TestIsPlaces(t *testing.T) {
	for _, kind := range types() {
		others := slices.DeleteFunc(types(), func(other int) bool { return other == kind })
		for _, little := range orders {
			b := append(message(kind, little), "behind it"...)
			tryIs(t, b)
			tryIs(t, b, types()...)
			tryIs(t, b, others...)
			tryIs(t, b, noTypes()...)
			for _, given := range slices.Concat(types(), noTypes()) {
				tryIs(t, b, given)
			}
			for at := range len(others) + 1 {
				tryIs(t, b, slices.Insert(slices.Clone(others), at, kind)...)
				tryIs(t, b, slices.Insert([]int{0, -1, 11, -kind, kind + 256, kind - 128, kind + 1<<32, math.MinInt, math.MaxInt}, at, kind)...)
			}
		}
	}
}

// P8.2: all texts of two bytes, and shorter ones, with several lists of types.
func TestIsAll(t *testing.T) {
	everything := slices.Concat(types(), noTypes())
	for first := range 256 {
		for second := range 256 {
			b := []byte{byte(first), byte(second)}
			for n := range len(b) + 1 {
				tryIs(t, b[:n])
				tryIs(t, b[:n], second/2)
				tryIs(t, b[:n], types()...)
				tryIs(t, b[:n], everything...)
			}
		}
	}
}

// P8.3: what was put is read as it was, whatever follows.
func TestPutRead(t *testing.T) {
	for _, kind := range types() {
		for _, little := range orders {
			for _, behind := range behinds {
				b := slices.Concat(header.Put(kind, little), behind)
				if k, l, e := header.Read(b); k != kind || l != little || e != api.OK {
					t.Errorf("Read(%v) = %d, %v, %d, want %d, %v, 0", b, k, l, e, kind, little)
				}
				if l, e := header.Is(b, kind); l != little || e != api.OK {
					t.Errorf("Is(%v, %d) = %v, %d, want %v, 0", b, kind, l, e, little)
				}
			}
		}
	}
}

// Random texts and types, also G1.
func TestRandom(t *testing.T) {
	r := rand.New(rand.NewSource(8))
	for range 20000 {
		b := make([]byte, r.Intn(6))
		r.Read(b)
		if len(b) > 0 && r.Intn(8) > 0 {
			b[0] = 4
		}
		if len(b) > 1 && r.Intn(3) > 0 {
			b[1] = byte(r.Intn(25))
		}
		kinds := make([]int, r.Intn(6))
		for i := range kinds {
			kinds[i] = sample.Number(r.Intn, 11)
		}
		tryRead(t, b)
		tryIs(t, b, kinds...)
	}
}

// G2, and LANGUAGE.md's rule 7: arguments stay as they are, with their spare capacity, and results are new memory.
func TestNothingModified(t *testing.T) {
	for _, b := range [][]byte{{}, {4}, {4, 7}, {4, 0}, {5, 7}, {4, 7, 9}} {
		framed := sample.Framed(b)
		before := bytes.Clone(framed[:cap(framed)])
		kinds := []int{api.MsgFive, api.MsgApRequest, 0, 77, api.MsgKa}[:3]
		header.Read(framed)
		header.Is(framed, kinds...)
		if !bytes.Equal(framed[:cap(framed)], before) {
			t.Errorf("Read or Is modified %v", b)
		}
		if !slices.Equal(kinds[:cap(kinds)], []int{api.MsgFive, api.MsgApRequest, 0, 77, api.MsgKa}) {
			t.Errorf("Is(%v, ..) modified the types", b)
		}
	}
	for _, kind := range types() {
		first, second := header.Put(kind, true), header.Put(kind, true)
		copy(first[:cap(first)], "changed")
		if third := header.Put(kind, true); !bytes.Equal(second, message(kind, true)) || !bytes.Equal(third, message(kind, true)) {
			t.Errorf("Put(%d, true) shares memory with an earlier result", kind)
		}
	}
}
