package field_test

import (
	"bytes"
	"math"
	"math/big"
	"math/rand"
	"slices"
	"strings"
	"testing"

	"kerbsuite/api"
	"kerbsuite/field"
	"kerbsuite/principal"
)

// kind is a kind of numbers: the tests of numbers are the same for all of them.
type kind struct {
	name string
	size int
	put  func(b []byte, n int, little bool) []byte
	get  func(b []byte, at int, little bool) (int, int, api.Errno)
}

// kinds are the kinds of numbers. An octet has the same bytes in both orders.
var kinds = []kind{
	{"Number", 4, field.PutNumber, field.Number},
	{"Short", 2, field.PutShort, field.Short},
	{
		"Octet", 1,
		func(b []byte, n int, _ bool) []byte { return field.PutOctet(b, n) },
		func(b []byte, at int, _ bool) (int, int, api.Errno) { return field.Octet(b, at) },
	},
}

// text returns n bytes that differ from those beside them, few of which are zero.
func text(n int) []byte {
	b := make([]byte, n)
	for i := range b {
		b[i] = byte(i*37 + 129)
	}
	return b
}

// arounds are texts of bytes in front of a field and behind it.
var arounds = [][]byte{nil, {}, {0}, {7}, {0, 0, 0}, []byte("a\x00b"), {255, 128, 0, 1}, text(7), text(8), text(100), make([]byte, 100)}

// integers are the edges of all ranges of numbers, what is beside them, and their negatives.
func integers() []int {
	var l []int
	for _, edge := range []int{0, 1 << 7, 1 << 8, 1 << 15, 1 << 16, 1 << 24, 1 << 31, 1 << 32, 1 << 33, 1 << 40, 1 << 62, 0x0102, 0x01020304, 0xfffefdfc, 0x1122334455667788, 3<<32 + 5, 1<<63 - 3} {
		for d := -2; d <= 2; d++ {
			l = append(l, edge+d, -edge-d)
		}
	}
	return append(l, math.MaxInt, math.MinInt, math.MinInt+1)
}

// remainder returns n modulo 256^size, with exact arithmetic.
func remainder(n, size int) int {
	unit := new(big.Int).Lsh(big.NewInt(1), uint(8*size))
	return int(new(big.Int).Mod(big.NewInt(int64(n)), unit).Int64())
}

// digits returns the bytes of the number n, which is in range.
func digits(n, size int, little bool) []byte {
	b := big.NewInt(int64(n)).FillBytes(make([]byte, size))
	if little {
		slices.Reverse(b)
	}
	return b
}

// indexes are all indexes of a text of n bytes and many numbers that are none, also those of which a word is one.
func indexes(n int) []int {
	l := []int{math.MinInt, math.MinInt + 1, math.MinInt + 4, -1 << 32, -1<<32 + 1, -n - 1, -n, -4, -3, -2, -1}
	for at := range n + 6 {
		l = append(l, at)
	}
	return append(l, 2*n+1, 255, 256, 1<<16, 1<<31, 1<<32, 1<<32+1, 1<<32+n, math.MaxInt-4, math.MaxInt-1, math.MaxInt)
}

// P5.1: the bytes of numbers.
func TestPutNumbers(t *testing.T) {
	tests := []struct {
		name      string
		got, want []byte
	}{
		{"PutNumber of 1, little", field.PutNumber(nil, 1, true), []byte{1, 0, 0, 0}},
		{"PutNumber of 1, big", field.PutNumber(nil, 1, false), []byte{0, 0, 0, 1}},
		{"PutNumber, little", field.PutNumber([]byte{9}, 0x01020304, true), []byte{9, 4, 3, 2, 1}},
		{"PutNumber, big", field.PutNumber([]byte{9}, 0x01020304, false), []byte{9, 1, 2, 3, 4}},
		{"PutNumber of 2^32 - 1", field.PutNumber(nil, 1<<32-1, true), []byte{255, 255, 255, 255}},
		{"PutNumber of 2^32", field.PutNumber(nil, 1<<32, true), []byte{0, 0, 0, 0}},
		{"PutNumber of 2^32 + 1", field.PutNumber(nil, 1<<32+1, false), []byte{0, 0, 0, 1}},
		{"PutNumber of -1", field.PutNumber(nil, -1, false), []byte{255, 255, 255, 255}},
		{"PutNumber of -2, little", field.PutNumber(nil, -2, true), []byte{254, 255, 255, 255}},
		{"PutNumber of -2, big", field.PutNumber(nil, -2, false), []byte{255, 255, 255, 254}},
		{"PutNumber of -2^32 - 1", field.PutNumber(nil, -1<<32-1, false), []byte{255, 255, 255, 255}},
		{"PutNumber of -256", field.PutNumber(nil, -256, false), []byte{255, 255, 255, 0}},
		{"PutShort, little", field.PutShort([]byte{9, 8}, 0x0102, true), []byte{9, 8, 2, 1}},
		{"PutShort, big", field.PutShort([]byte{9, 8}, 0x0102, false), []byte{9, 8, 1, 2}},
		{"PutShort of 2^16 - 1", field.PutShort(nil, 1<<16-1, false), []byte{255, 255}},
		{"PutShort of 2^16", field.PutShort(nil, 1<<16, false), []byte{0, 0}},
		{"PutShort of 2^16 + 1, little", field.PutShort(nil, 1<<16+1, true), []byte{1, 0}},
		{"PutShort of 2^16 + 1, big", field.PutShort(nil, 1<<16+1, false), []byte{0, 1}},
		{"PutShort of -2, little", field.PutShort(nil, -2, true), []byte{254, 255}},
		{"PutShort of -2, big", field.PutShort(nil, -2, false), []byte{255, 254}},
		{"PutOctet of 0", field.PutOctet(nil, 0), []byte{0}},
		{"PutOctet of 255", field.PutOctet([]byte{9}, 255), []byte{9, 255}},
		{"PutOctet of 256", field.PutOctet([]byte{9}, 256), []byte{9, 0}},
		{"PutOctet of 257", field.PutOctet([]byte{9}, 257), []byte{9, 1}},
		{"PutOctet of -1", field.PutOctet([]byte{}, -1), []byte{255}},
		{"PutOctet of -255", field.PutOctet([]byte{}, -255), []byte{1}},
		{"PutOctet of -257", field.PutOctet([]byte{}, -257), []byte{255}},
	}
	for _, x := range tests {
		if !bytes.Equal(x.got, x.want) {
			t.Errorf("%s = %v, want %v", x.name, x.got, x.want)
		}
	}
}

// P5.1: the bytes are those of the exact remainder, and what is in front of them stays.
func TestPutNumbersAll(t *testing.T) {
	for _, k := range kinds {
		for _, n := range integers() {
			for _, little := range []bool{false, true} {
				for _, front := range arounds {
					want := slices.Concat(front, digits(remainder(n, k.size), k.size, little))
					if b := k.put(front, n, little); !bytes.Equal(b, want) {
						t.Errorf("Put%s(%v, %d, %v) = %v, want %v", k.name, front, n, little, b, want)
					}
				}
			}
		}
	}
}

// P5.1: the values of numbers.
func TestNumbers(t *testing.T) {
	b := []byte{0, 1, 2, 3, 4, 128, 0, 0, 255, 254, 253, 252}
	tests := []struct {
		kind, at  int
		little    bool
		want, end int
		e         api.Errno
	}{
		{0, 0, false, 0x00010203, 4, api.OK},
		{0, 0, true, 0x03020100, 4, api.OK},
		{0, 1, false, 0x01020304, 5, api.OK},
		{0, 1, true, 0x04030201, 5, api.OK},
		{0, 5, false, 0x800000ff, 9, api.OK},
		{0, 5, true, 0xff000080, 9, api.OK},
		{0, 8, false, 0xfffefdfc, 12, api.OK},
		{0, 8, true, 0xfcfdfeff, 12, api.OK},
		{0, 9, true, 0, 0, api.ErrTruncated},
		{0, 11, true, 0, 0, api.ErrTruncated},
		{0, 12, true, 0, 0, api.ErrTruncated},
		{0, 13, true, 0, 0, api.ErrRange},
		{0, -1, true, 0, 0, api.ErrRange},
		{1, 4, false, 0x0480, 6, api.OK},
		{1, 4, true, 0x8004, 6, api.OK},
		{1, 10, false, 0xfdfc, 12, api.OK},
		{1, 10, true, 0xfcfd, 12, api.OK},
		{1, 11, true, 0, 0, api.ErrTruncated},
		{1, 12, true, 0, 0, api.ErrTruncated},
		{1, 13, true, 0, 0, api.ErrRange},
		{1, -2, true, 0, 0, api.ErrRange},
		{2, 0, true, 0, 1, api.OK},
		{2, 8, true, 255, 9, api.OK},
		{2, 11, true, 252, 12, api.OK},
		{2, 12, true, 0, 0, api.ErrTruncated},
		{2, 13, true, 0, 0, api.ErrRange},
		{2, -1, true, 0, 0, api.ErrRange},
	}
	for _, x := range tests {
		k := kinds[x.kind]
		if n, end, e := k.get(b, x.at, x.little); n != x.want || end != x.end || e != x.e {
			t.Errorf("%s at %d, little %v = %#x, %d, %d, want %#x, %d, %d", k.name, x.at, x.little, n, end, e, x.want, x.end, x.e)
		}
	}
}

// numberByHand reads a number as P5.1 says, with exact arithmetic.
func numberByHand(b []byte, at, size int, little bool) (int, int, api.Errno) {
	if at < 0 || at > len(b) {
		return 0, 0, api.ErrRange
	}
	following := slices.Clone(b[at:])
	if len(following) < size {
		return 0, 0, api.ErrTruncated
	}
	following = following[:size]
	if little {
		slices.Reverse(following)
	}
	return int(new(big.Int).SetBytes(following).Int64()), at + size, api.OK
}

// P5.1: all indexes of texts of all lengths, with and without bytes behind the end of the slice, and their errors.
func TestNumbersAll(t *testing.T) {
	store := text(300)
	for n := range 20 {
		for _, b := range [][]byte{store[:n], store[:n:n], store[130:][:n], make([]byte, n), make([]byte, n, n+8)} {
			for _, at := range indexes(n) {
				for _, little := range []bool{false, true} {
					for _, k := range kinds {
						want, wantEnd, wantError := numberByHand(b, at, k.size, little)
						if x, end, e := k.get(b, at, little); x != want || end != wantEnd || e != wantError {
							t.Errorf("%s(%v, %d, %v) = %d, %d, %d, want %d, %d, %d", k.name, b, at, little, x, end, e, want, wantEnd, wantError)
						}
					}
				}
			}
		}
	}
}

// P5.1: every value of a byte, at every place of a number.
func TestNumbersBytes(t *testing.T) {
	for _, k := range kinds {
		for i := range k.size {
			for c := range 256 {
				b := make([]byte, k.size)
				b[i] = byte(c)
				if n, _, e := k.get(b, 0, true); n != c<<(8*i) || e != api.OK {
					t.Errorf("%s(%v), little = %d, %d", k.name, b, n, e)
				}
				if n, _, e := k.get(b, 0, false); n != c<<(8*(k.size-1-i)) || e != api.OK {
					t.Errorf("%s(%v), big = %d, %d", k.name, b, n, e)
				}
			}
		}
	}
}

// P5.2: the index counts before n does, and no sum of the two wraps around.
func TestBytes(t *testing.T) {
	b := []byte("abcdef")
	tests := []struct {
		at, n int
		want  string
		end   int
		e     api.Errno
	}{
		{0, 0, "", 0, api.OK},
		{0, 1, "a", 1, api.OK},
		{0, 6, "abcdef", 6, api.OK},
		{0, 7, "", 0, api.ErrTruncated},
		{2, 0, "", 2, api.OK},
		{2, 3, "cde", 5, api.OK},
		{2, 4, "cdef", 6, api.OK},
		{2, 5, "", 0, api.ErrTruncated},
		{2, -1, "", 0, api.ErrRange},
		{2, -2, "", 0, api.ErrRange},
		{2, math.MinInt, "", 0, api.ErrRange},
		{2, math.MaxInt, "", 0, api.ErrTruncated},
		{2, math.MaxInt - 1, "", 0, api.ErrTruncated},
		{2, 1<<32 + 1, "", 0, api.ErrTruncated},
		{2, -1<<32 + 1, "", 0, api.ErrRange},
		{6, 0, "", 6, api.OK},
		{6, 1, "", 0, api.ErrTruncated},
		{6, -1, "", 0, api.ErrRange},
		{6, math.MaxInt, "", 0, api.ErrTruncated},
		{7, 0, "", 0, api.ErrRange},
		{7, -1, "", 0, api.ErrRange},
		{7, 1, "", 0, api.ErrRange},
		{-1, 0, "", 0, api.ErrRange},
		{-1, 1, "", 0, api.ErrRange},
		{-1, 100, "", 0, api.ErrRange},
		{math.MaxInt, 1, "", 0, api.ErrRange},
		{math.MaxInt, math.MaxInt, "", 0, api.ErrRange},
		{math.MinInt, math.MinInt, "", 0, api.ErrRange},
		{math.MinInt, math.MaxInt, "", 0, api.ErrRange},
	}
	for _, x := range tests {
		if got, end, e := field.Bytes(b, x.at, x.n); string(got) != x.want || end != x.end || e != x.e {
			t.Errorf("Bytes at %d of %d bytes = %q, %d, %d, want %q, %d, %d", x.at, x.n, got, end, e, x.want, x.end, x.e)
		}
	}
	for _, none := range [][]byte{nil, {}} {
		if got, end, e := field.Bytes(none, 0, 0); len(got) != 0 || end != 0 || e != api.OK {
			t.Errorf("Bytes of no bytes = %v, %d, %d", got, end, e)
		}
	}
}

// bytesByHand counts the bytes that follow one by one.
func bytesByHand(b []byte, at, n int) ([]byte, int, api.Errno) {
	if at < 0 || at > len(b) || n < 0 {
		return nil, 0, api.ErrRange
	}
	var l []byte
	for i := at; len(l) < n; i++ {
		if i == len(b) {
			return nil, 0, api.ErrTruncated
		}
		l = append(l, b[i])
	}
	return l, at + len(l), api.OK
}

// P5.2: all indexes and numbers of bytes, with and without bytes behind the end of the slice.
func TestBytesAll(t *testing.T) {
	store := text(100)
	for n := range 12 {
		for _, b := range [][]byte{store[:n], store[:n:n], make([]byte, n, n+20)} {
			for _, at := range indexes(n) {
				for _, count := range indexes(n) {
					want, wantEnd, wantError := bytesByHand(b, at, count)
					got, end, e := field.Bytes(b, at, count)
					if !bytes.Equal(got, want) || end != wantEnd || e != wantError {
						t.Errorf("Bytes(%v, %d, %d) = %v, %d, %d, want %v, %d, %d", b, at, count, got, end, e, want, wantEnd, wantError)
					}
				}
			}
		}
	}
}

// strange are texts of all sorts, also those that are too long or contain a zero byte.
func strange() []string {
	l := []string{"", "a", "ab", "a.b@c", " ", "\x01", "\x7f", "\x80", "\xff\xfe", "é", "\x00", "a\x00", "\x00a", "a\x00b", "\x00\x00"}
	for _, n := range []int{7, 8, 38, 39, 40, 41, 79, 80, 300} {
		l = append(l, strings.Repeat("x", n))
	}
	return l
}

// P5.2: PutText writes any text, in full.
func TestPutText(t *testing.T) {
	for _, s := range strange() {
		for _, front := range arounds {
			want := append([]byte(string(front)+s), 0)
			if b := field.PutText(front, s); !bytes.Equal(b, want) {
				t.Errorf("PutText(%v, %q) = %v", front, s, b)
			}
		}
	}
	if b := field.PutText([]byte("a"), "bc"); string(b) != "abc\x00" {
		t.Errorf("PutText = %q", b)
	}
}

// P5.2: the edges of the lengths of texts, and the order of the errors.
func TestText(t *testing.T) {
	x := func(n int) string { return strings.Repeat("x", n) }
	tests := []struct {
		b    string
		at   int
		want string
		end  int
		e    api.Errno
	}{
		{"a\x00b", 0, "a", 2, api.OK},
		{"a\x00b", 1, "", 2, api.OK},
		{"a\x00b", 2, "", 0, api.ErrTruncated},
		{"a\x00b", 3, "", 0, api.ErrTruncated},
		{"a\x00b", 4, "", 0, api.ErrRange},
		{"a\x00b", -1, "", 0, api.ErrRange},
		{"a\x00b\x00", 2, "b", 4, api.OK},
		{"ab\x00\x00", 1, "b", 3, api.OK},
		{"\xff\x80\xc3\xa9\x01\x7f\x00", 0, "\xff\x80é\x01\x7f", 7, api.OK},
		{"", 0, "", 0, api.ErrTruncated},
		{"", 1, "", 0, api.ErrRange},
		{"", -1, "", 0, api.ErrRange},
		{"\x00", 0, "", 1, api.OK},
		{"\x00", 1, "", 0, api.ErrTruncated},
		{x(38) + "\x00", 0, x(38), 39, api.OK},
		{x(39) + "\x00", 0, x(39), 40, api.OK},
		{x(40) + "\x00", 0, "", 0, api.ErrTooLong},
		{x(41) + "\x00", 0, "", 0, api.ErrTooLong},
		{x(400) + "\x00", 0, "", 0, api.ErrTooLong},
		{x(38), 0, "", 0, api.ErrTruncated},
		{x(39), 0, "", 0, api.ErrTruncated},
		{x(40), 0, "", 0, api.ErrTooLong},
		{x(41), 0, "", 0, api.ErrTooLong},
		{x(41), 1, "", 0, api.ErrTooLong},
		{x(41), 2, "", 0, api.ErrTruncated},
		{x(40), 1, "", 0, api.ErrTruncated},
		{x(40) + "\x00", 1, x(39), 41, api.OK},
		{x(40), 40, "", 0, api.ErrTruncated},
		{x(40), 41, "", 0, api.ErrRange},
		{x(40), -1, "", 0, api.ErrRange},
		{"\x00" + x(40), 1, "", 0, api.ErrTooLong},
		{"\x00" + x(39), 1, "", 0, api.ErrTruncated},
		{"\x00" + x(39), 0, "", 1, api.OK},
		{x(40), math.MaxInt, "", 0, api.ErrRange},
		{x(40), math.MinInt, "", 0, api.ErrRange},
		{x(40), 1 << 32, "", 0, api.ErrRange},
	}
	for _, y := range tests {
		if s, end, e := field.Text([]byte(y.b), y.at); s != y.want || end != y.end || e != y.e {
			t.Errorf("Text(%q, %d) = %q, %d, %d, want %q, %d, %d", y.b, y.at, s, end, e, y.want, y.end, y.e)
		}
	}
}

// textByHand reads a text byte by byte, as P5.2 says.
func textByHand(b []byte, at int) (string, int, api.Errno) {
	if at < 0 || at > len(b) {
		return "", 0, api.ErrRange
	}
	s := ""
	for i := at; i < len(b); i++ {
		if b[i] == 0 {
			return s, i + 1, api.OK
		}
		s += string(b[i : i+1])
		if len(s) == 40 {
			return "", 0, api.ErrTooLong
		}
	}
	return "", 0, api.ErrTruncated
}

// checkText compares Text with textByHand.
func checkText(t *testing.T, b []byte, at int) {
	t.Helper()
	want, wantEnd, wantError := textByHand(b, at)
	if s, end, e := field.Text(b, at); s != want || end != wantEnd || e != wantError {
		t.Errorf("Text(%v, %d) = %q, %d, %d, want %q, %d, %d", b, at, s, end, e, want, wantEnd, wantError)
	}
}

// P5.2: texts of all lengths, with a zero byte at any place or nowhere; one behind the end of the slice does not count.
func TestTextAll(t *testing.T) {
	for n := range 90 {
		for zero := range n + 2 {
			store := bytes.Repeat([]byte{200}, n+2)
			store[zero] = 0
			b := store[:n]
			for _, at := range []int{-1, 0, 1, zero - 1, zero, zero + 1, n - 41, n - 40, n - 39, n - 1, n, n + 1} {
				checkText(t, b, at)
			}
		}
	}
	for _, at := range indexes(50) {
		checkText(t, make([]byte, 50), at)
		checkText(t, bytes.Repeat([]byte{255}, 50), at)
		checkText(t, slices.Concat(bytes.Repeat([]byte("x"), 45), []byte("\x00y\x00zz")), at)
	}
	for c := range 256 {
		checkText(t, []byte{'a', byte(c), 'b', 0, 'c', 0}, 0)
	}
}

func make3(name, instance, realm string) api.Principal {
	return api.Principal{Name: name, Instance: instance, Realm: realm}
}

// P5.3: any principal is written, also one that is not valid.
func TestPutPrincipal(t *testing.T) {
	if b := field.PutPrincipal([]byte{9}, make3("rcmd", "host.mit", "R")); string(b) != "\trcmd\x00host.mit\x00R\x00" {
		t.Errorf("PutPrincipal = %q", b)
	}
	if b := field.PutPrincipal(nil, api.Principal{}); string(b) != "\x00\x00\x00" {
		t.Errorf("PutPrincipal of the zero principal = %q", b)
	}
	for _, name := range strange() {
		for _, instance := range strange() {
			for i, realm := range strange() {
				front := arounds[i%len(arounds)]
				want := string(front) + name + "\x00" + instance + "\x00" + realm + "\x00"
				if b := field.PutPrincipal(front, make3(name, instance, realm)); string(b) != want {
					t.Errorf("PutPrincipal(%v, %q, %q, %q) = %q", front, name, instance, realm, b)
				}
			}
		}
	}
}

// P5.3: the errors of the texts come before that of the names.
func TestPrincipal(t *testing.T) {
	long := strings.Repeat("x", 39)
	tests := []struct {
		b    string
		at   int
		want api.Principal
		end  int
		e    api.Errno
	}{
		{"rcmd\x00host.mit\x00R\x00", 0, make3("rcmd", "host.mit", "R"), 16, api.OK},
		{"rcmd\x00host.mit\x00R\x00", 1, make3("cmd", "host.mit", "R"), 16, api.OK},
		{"a\x00\x00R\x00", 0, make3("a", "", "R"), 5, api.OK},
		{"a\x00\x00R\x00more\x00", 0, make3("a", "", "R"), 5, api.OK},
		{"\x00\x00\x00a\x00b\x00R\x00\x00", 3, make3("a", "b", "R"), 9, api.OK},
		{long + "\x00" + long + "\x00" + long + "\x00", 0, make3(long, long, long), 120, api.OK},

		{"a\x00b\x00R\x00", -1, api.Principal{}, 0, api.ErrRange},
		{"a\x00b\x00R\x00", 7, api.Principal{}, 0, api.ErrRange},
		{"a\x00b\x00R\x00", math.MaxInt, api.Principal{}, 0, api.ErrRange},
		{"a\x00b\x00R\x00", math.MinInt, api.Principal{}, 0, api.ErrRange},
		{"a\x00b\x00R\x00", 6, api.Principal{}, 0, api.ErrTruncated},
		{"", 0, api.Principal{}, 0, api.ErrTruncated},
		{"a", 0, api.Principal{}, 0, api.ErrTruncated},
		{"a\x00", 0, api.Principal{}, 0, api.ErrTruncated},
		{"a\x00b", 0, api.Principal{}, 0, api.ErrTruncated},
		{"a\x00b\x00", 0, api.Principal{}, 0, api.ErrTruncated},
		{"a\x00b\x00R", 0, api.Principal{}, 0, api.ErrTruncated},
		{"a\x00b\x00R\x00", 2, api.Principal{}, 0, api.ErrTruncated},
		{long + "x\x00b\x00R\x00", 0, api.Principal{}, 0, api.ErrTooLong},
		{"a\x00" + long + "x\x00R\x00", 0, api.Principal{}, 0, api.ErrTooLong},
		{"a\x00b\x00" + long + "x\x00", 0, api.Principal{}, 0, api.ErrTooLong},
		{"a\x00b\x00" + long + "x", 0, api.Principal{}, 0, api.ErrTooLong},
		{"a\x00b\x00" + long, 0, api.Principal{}, 0, api.ErrTruncated},

		{"\x00b\x00R\x00", 0, api.Principal{}, 0, api.ErrName},
		{"a\x00b\x00R\x00", 1, api.Principal{}, 0, api.ErrName},
		{"a\x00b\x00\x00", 0, api.Principal{}, 0, api.ErrName},
		{"\x00\x00\x00", 0, api.Principal{}, 0, api.ErrName},
		{"a.b\x00\x00R\x00", 0, api.Principal{}, 0, api.ErrName},
		{"a@b\x00\x00R\x00", 0, api.Principal{}, 0, api.ErrName},
		{"a\x00@\x00R\x00", 0, api.Principal{}, 0, api.ErrName},
		{"a\x00b c\x00R\x00", 0, api.Principal{}, 0, api.ErrName},
		{"a\x00b\x00R@\x00", 0, api.Principal{}, 0, api.ErrName},
		{"a\x00b\x00\xff\x00", 0, api.Principal{}, 0, api.ErrName},
		{"\x7f\x00b\x00R\x00", 0, api.Principal{}, 0, api.ErrName},

		// two errors at once
		{"a.b\x00b\x00R", 0, api.Principal{}, 0, api.ErrTruncated},
		{"\x00b\x00", 0, api.Principal{}, 0, api.ErrTruncated},
		{"\x00", 0, api.Principal{}, 0, api.ErrTruncated},
		{"a b\x00" + long + "x\x00R\x00", 0, api.Principal{}, 0, api.ErrTooLong},
		{"a\x00@\x00" + long + "x\x00", 0, api.Principal{}, 0, api.ErrTooLong},
		{"a\x00" + long + "x", 0, api.Principal{}, 0, api.ErrTooLong},
		{long + "x", 0, api.Principal{}, 0, api.ErrTooLong},
		{"@\x00b\x00R\x00", -1, api.Principal{}, 0, api.ErrRange},
	}
	for _, x := range tests {
		if p, end, e := field.Principal([]byte(x.b), x.at); p != x.want || end != x.end || e != x.e {
			t.Errorf("Principal(%q, %d) = %q, %d, %d, want %q, %d, %d", x.b, x.at, p, end, e, x.want, x.end, x.e)
		}
	}
}

// principalByHand reads the texts by hand and leaves only the names to package principal.
func principalByHand(b []byte, at int) (api.Principal, int, api.Errno) {
	var l [3]string
	for i := range l {
		s, next, e := textByHand(b, at)
		if e != api.OK {
			return api.Principal{}, 0, e
		}
		l[i], at = s, next
	}
	p := make3(l[0], l[1], l[2])
	if !principal.Valid(p) {
		return api.Principal{}, 0, api.ErrName
	}
	return p, at, api.OK
}

// checkPrincipal compares Principal with principalByHand, and returns its error.
func checkPrincipal(t *testing.T, b []byte, at int) api.Errno {
	t.Helper()
	want, wantEnd, wantError := principalByHand(b, at)
	p, end, e := field.Principal(b, at)
	if p != want || end != wantEnd || e != wantError {
		t.Errorf("Principal(%q, %d) = %q, %d, %d, want %q, %d, %d", b, at, p, end, e, want, wantEnd, wantError)
	}
	return e
}

// P5.3: every beginning of a principal, at every index, and every byte in each of its parts.
func TestPrincipalAll(t *testing.T) {
	long := strings.Repeat("x", 39)
	for _, s := range []string{"rcmd\x00host.mit\x00R\x00", long + "\x00" + long + "\x00" + long + "\x00", "a\x00" + long + "x\x00R\x00", "\x00\x00\x00", "a\x00\x00R\x00b\x00\x00R\x00"} {
		store := []byte(s)
		for n := range len(store) + 1 {
			for at := -1; at <= n+1; at++ {
				checkPrincipal(t, store[:n], at)
			}
		}
		for i, old := range store {
			for c := range 256 {
				store[i] = byte(c)
				checkPrincipal(t, store, 0)
			}
			store[i] = old
		}
	}
}

// P5.4: the lengths of padded texts, for all remainders.
func TestPad(t *testing.T) {
	for n := range 50 {
		store := bytes.Repeat([]byte{7}, n+20)
		for _, b := range [][]byte{store[:n], store[:n:n], make([]byte, n), make([]byte, n, n+20)} {
			padded := field.Pad(b)
			added := len(padded) - n
			if len(padded)%8 != 0 || added < 0 || added > 7 || !bytes.Equal(padded[:n], b) || !bytes.Equal(padded[n:], make([]byte, added)) {
				t.Errorf("Pad(%v) = %v", b, padded)
			}
		}
	}
	if b := field.Pad(nil); len(b) != 0 {
		t.Errorf("Pad of nothing = %v", b)
	}
	if b := field.Pad([]byte{1}); !bytes.Equal(b, []byte{1, 0, 0, 0, 0, 0, 0, 0}) {
		t.Errorf("Pad of 1 byte = %v", b)
	}
	if b := field.Pad([]byte{1, 2, 3, 4, 5, 6, 7}); !bytes.Equal(b, []byte{1, 2, 3, 4, 5, 6, 7, 0}) {
		t.Errorf("Pad of 7 bytes = %v", b)
	}
	if b := field.Pad([]byte{1, 2, 3, 4, 5, 6, 7, 8}); !bytes.Equal(b, []byte{1, 2, 3, 4, 5, 6, 7, 8}) {
		t.Errorf("Pad of 8 bytes = %v", b)
	}
}

// P5.4: 0 to 7 zero bytes up to a multiple of 8.
func TestPadding(t *testing.T) {
	tests := []struct {
		b    string
		at   int
		want bool
	}{
		{"", 0, true},
		{"", 1, false},
		{"", 8, false},
		{"", -1, false},
		{"abcdefgh", 8, true},
		{"abcdefgh", 7, false},
		{"abcdefgh", 9, false},
		{"abcdefgh", 16, false},
		{"abcdefg\x00", 7, true},
		{"abcdefg\x00", 8, true},
		{"abcdefg\x00", 6, false},
		{"abcdefg", 7, false},
		{"abcdefg\x00\x00", 7, false},
		{"abcdefg\x00\x00", 9, false},
		{"a\x00\x00\x00\x00\x00\x00\x00", 1, true},
		{"a\x00\x00\x00\x00\x00\x00\x00", 0, false},
		{"a\x00\x00\x00\x00\x00\x00\x01", 1, false},
		{"a\x01\x00\x00\x00\x00\x00\x00", 1, false},
		{"a\x00\x00\x80\x00\x00\x00\x00", 1, false},
		{"\x00\x00\x00\x00\x00\x00\x00\x00", 0, false},
		{"\x00\x00\x00\x00\x00\x00\x00\x00", 1, true},
		{"\x00\x00\x00\x00\x00\x00\x00\x00", -1, false},
		{"abcdefgh\x00\x00\x00\x00\x00\x00\x00\x00", 8, false},
		{"abcdefgh\x00\x00\x00\x00\x00\x00\x00\x00", 9, true},
		{"abcdefgh\x00\x00\x00\x00\x00\x00\x00\x00", 7, false},
		{"abcdefgh\x00\x00\x00\x00", 8, false},
		{"abcdefgh\x00\x00\x00\x00", 12, false},
		{"abcd", 4, false},
		{"abcdefgh", math.MaxInt, false},
		{"abcdefgh", math.MinInt, false},
		{"\x00\x00\x00\x00\x00\x00\x00\x00", math.MinInt + 8, false},
		{"\x00\x00\x00\x00\x00\x00\x00\x00", 1<<32 + 4, false},
	}
	for _, x := range tests {
		if got := field.Padding([]byte(x.b), x.at); got != x.want {
			t.Errorf("Padding(%q, %d) = %v", x.b, x.at, got)
		}
	}
}

// paddingByHand tries the eight paddings that there are.
func paddingByHand(b []byte, at int) bool {
	for n := range 8 {
		if len(b)%8 == 0 && at >= 0 && at == len(b)-n {
			return bytes.Equal(b[at:], make([]byte, n))
		}
	}
	return false
}

// P5.4: all lengths and indexes, with no byte or one that is not zero.
func TestPaddingAll(t *testing.T) {
	for n := range 35 {
		for other := -1; other < n+1; other++ {
			store := make([]byte, n+1)
			if other >= 0 {
				store[other] = 1 << (other % 8)
			}
			for _, at := range indexes(n) {
				if got := field.Padding(store[:n], at); got != paddingByHand(store[:n], at) {
					t.Errorf("Padding(%v, %d) = %v", store[:n], at, got)
				}
			}
		}
	}
}

// P5.4: padding is what Pad appends, and nothing else is.
func TestPadPadding(t *testing.T) {
	for n := range 40 {
		for _, b := range [][]byte{make([]byte, n), bytes.Repeat([]byte{3}, n)} {
			padded := field.Pad(b)
			if !field.Padding(padded, n) {
				t.Errorf("Padding(%v, %d) = false", padded, n)
			}
			if n%8 != 0 && field.Padding(b, n) {
				t.Errorf("Padding(%v, %d) = true", b, n)
			}
			for _, more := range []int{1, 7, 8, 16} {
				if l := slices.Concat(padded, make([]byte, more)); field.Padding(l, n) {
					t.Errorf("Padding(%v, %d) = true", l, n)
				}
			}
		}
	}
}

// P5.5: a number is read as it was written, or reversed in the other byte order, whatever is around it.
func TestNumberReadBack(t *testing.T) {
	for _, k := range kinds {
		for _, m := range integers() {
			n := remainder(m, k.size)
			reversed := int(new(big.Int).SetBytes(digits(n, k.size, true)).Int64())
			for _, little := range []bool{false, true} {
				for _, front := range arounds {
					for _, behind := range arounds {
						b := slices.Concat(k.put(front, n, little), behind)
						at, end := len(front), len(front)+k.size
						if x, next, e := k.get(b, at, little); x != n || next != end || e != api.OK {
							t.Fatalf("%s(%v, %d, %v) = %d, %d, %d, want %d", k.name, b, at, little, x, next, e, n)
						}
						want := reversed
						if x, next, e := k.get(b, at, !little); x != want || next != end || e != api.OK {
							t.Fatalf("%s(%v, %d, %v) = %d, %d, %d, want %d", k.name, b, at, !little, x, next, e, want)
						}
					}
				}
			}
		}
	}
}

// P5.5: all shorts and octets.
func TestShortReadBack(t *testing.T) {
	for n := range 1 << 16 {
		for _, little := range []bool{false, true} {
			b := field.PutShort(nil, n, little)
			same, _, e := field.Short(b, 0, little)
			other, _, f := field.Short(b, 0, !little)
			if same != n || other != n>>8|n&255<<8 || e != api.OK || f != api.OK {
				t.Fatalf("Short(%v) = %d, %d, the other way %d, %d", b, same, e, other, f)
			}
		}
		if x, end, e := field.Octet(field.PutOctet(nil, n), 0); x != n%256 || end != 1 || e != api.OK {
			t.Fatalf("Octet of %d = %d, %d, %d", n, x, end, e)
		}
	}
}

// P5.5: a text is read as it was written if it is short enough and has no zero byte, whatever is around it.
func TestTextReadBack(t *testing.T) {
	read := 0
	for _, s := range strange() {
		for _, front := range arounds {
			for _, behind := range arounds {
				b := slices.Concat(field.PutText(front, s), behind)
				got, end, e := field.Text(b, len(front))
				if zero := strings.IndexByte(s, 0); zero >= 0 {
					if got != s[:zero] || end != len(front)+zero+1 || e != api.OK {
						t.Errorf("Text(%v, %d) = %q, %d, %d", b, len(front), got, end, e)
					}
				} else if len(s) > api.MaxName {
					if got != "" || end != 0 || e != api.ErrTooLong {
						t.Errorf("Text(%v, %d) = %q, %d, %d", b, len(front), got, end, e)
					}
				} else if read++; got != s || end != len(front)+len(s)+1 || e != api.OK {
					t.Errorf("Text(%v, %d) = %q, %d, %d, want %q", b, len(front), got, end, e, s)
				}
			}
		}
	}
	if read == 0 {
		t.Error("no text was read")
	}
}

// P5.5: so is every valid principal.
func TestPrincipalReadBack(t *testing.T) {
	long := strings.Repeat("x", 39)
	parts := []string{"", "a", "b.c", ".", "~!", "krbtgt", long, long[1:] + ".", "@", "x y"}
	read := 0
	for _, name := range parts {
		for _, instance := range parts {
			for i, realm := range parts {
				p := make3(name, instance, realm)
				front, behind := arounds[i%len(arounds)], arounds[(i+read)%len(arounds)]
				b := slices.Concat(field.PutPrincipal(front, p), behind)
				got, end, e := field.Principal(b, len(front))
				if !principal.Valid(p) {
					if got != (api.Principal{}) || end != 0 || e != api.ErrName {
						t.Errorf("Principal(%q, %d) = %q, %d, %d, want ErrName", b, len(front), got, end, e)
					}
				} else if read++; got != p || end != len(b)-len(behind) || e != api.OK {
					t.Errorf("Principal(%q, %d) = %q, %d, %d, want %q", b, len(front), got, end, e, p)
				}
			}
		}
	}
	if read == 0 {
		t.Error("no principal was read")
	}
}

// P5.5: a message of many fields in a row.
func TestFieldsInARow(t *testing.T) {
	p := make3("rcmd", "host.mit", "ATHENA")
	for _, little := range []bool{false, true} {
		b := field.PutOctet(nil, 4)
		b = field.PutNumber(b, 0x80010203, little)
		b = field.PutText(b, "text")
		b = field.PutPrincipal(b, p)
		b = field.PutShort(b, 0xfffe, little)
		end := len(b)
		b = field.Pad(b)
		octet, at, _ := field.Octet(b, 0)
		number, at, _ := field.Number(b, at, little)
		s, at, _ := field.Text(b, at)
		q, at, _ := field.Principal(b, at)
		short, at, e := field.Short(b, at, little)
		if octet != 4 || number != 0x80010203 || s != "text" || q != p || short != 0xfffe || at != end || e != api.OK || !field.Padding(b, at) || len(b) != 40 {
			t.Errorf("%v: %d, %#x, %q, %q, %#x, %d, %d", b, octet, number, s, q, short, at, e)
		}
	}
}

// P5.1 to P5.4, G1: texts of bytes and indexes of all sorts.
func TestAny(t *testing.T) {
	r := rand.New(rand.NewSource(5))
	alphabet := []byte("abxyz.@ \xff\x00\x00\x00")
	found := map[api.Errno]int{}
	for range 100000 {
		b := make([]byte, r.Intn(140))
		// a rare zero byte makes texts that are too long, a frequent one makes principals
		letters := alphabet[:9+r.Intn(4)]
		for i := range b {
			b[i] = letters[r.Intn(len(letters))]
			if r.Intn(2) == 0 {
				b[i] = 'q'
			}
		}
		at := r.Intn(len(b)+10) - 3
		found[checkPrincipal(t, b, at)]++
		checkText(t, b, at)
		if got := field.Padding(b, at); got != paddingByHand(b, at) {
			t.Errorf("Padding(%v, %d) = %v", b, at, got)
		}
		n := r.Intn(len(b)+3) - 2
		want, wantEnd, wantError := bytesByHand(b, at, n)
		if got, end, e := field.Bytes(b, at, n); !bytes.Equal(got, want) || end != wantEnd || e != wantError {
			t.Errorf("Bytes(%v, %d, %d) = %v, %d, %d", b, at, n, got, end, e)
		}
	}
	for _, e := range []api.Errno{api.OK, api.ErrRange, api.ErrTooLong, api.ErrTruncated, api.ErrName} {
		if found[e] < 100 {
			t.Errorf("only %d principals had the error %d", found[e], e)
		}
	}
}

// spoil writes to b and to its spare capacity.
func spoil(b []byte) {
	for i := range b[:cap(b)] {
		b[:cap(b)][i] ^= 0xff
	}
}

// writers call every function that writes.
func writers(b []byte) [][]byte {
	return [][]byte{
		field.PutNumber(b, 0x01020304, true),
		field.PutNumber(b, 0x01020304, false),
		field.PutShort(b, 0x0102, true),
		field.PutShort(b, 0x0102, false),
		field.PutOctet(b, 5),
		field.PutText(b, "abc"),
		field.PutText(b, ""),
		field.PutPrincipal(b, make3("a", "", "R")),
		field.Pad(b),
	}
}

// G2, and rule 7 of the language: the arguments stay, with their spare capacity, and results are new memory.
func TestPurity(t *testing.T) {
	for n := range 26 {
		store := slices.Concat([]byte("a\x00b\x00R\x00"), text(34))
		want := slices.Clone(store)
		for _, b := range [][]byte{store, store[:n], store[:n:n], store[: n : n+1]} {
			for i, made := range writers(b) {
				spoil(made)
				if !bytes.Equal(store, want) {
					t.Fatalf("the writer %d changed its argument, or shares its memory: %v", i, store)
				}
			}
			got, _, _ := field.Bytes(b, 0, len(b))
			spoil(got)
			got, _, _ = field.Bytes(b, 0, len(b)/2)
			spoil(got)
			got, _, _ = field.Bytes(b, len(b), 0)
			spoil(got)
			field.Number(b, 0, true)
			field.Short(b, 0, false)
			field.Octet(b, 0)
			field.Text(b, 0)
			field.Principal(b, 0)
			field.Padding(b, len(b))
			if !bytes.Equal(store, want) {
				t.Fatalf("a reader changed its argument, or shares its memory: %v", store)
			}
		}
	}
}

// G2: a later call, and what is done with its result or its argument, does not change an earlier result.
func TestResultsStay(t *testing.T) {
	for n := range 10 {
		b := text(n)
		made := writers(b)
		want := writers(slices.Clone(b))
		for _, other := range writers(b) {
			spoil(other)
		}
		spoil(b)
		for i := range made {
			if !bytes.Equal(made[i], want[i]) {
				t.Errorf("the result %d became %v, want %v", i, made[i], want[i])
			}
		}
	}
	b := []byte("abc\x00d\x00e\x00")
	s, _, _ := field.Text(b, 0)
	p, _, _ := field.Principal(b, 0)
	spoil(b)
	if s != "abc" || p != make3("abc", "d", "e") {
		t.Errorf("Text and Principal became %q, %q", s, p)
	}
}
