package authenticator_test

import (
	"bytes"
	"encoding/binary"
	"math"
	"math/bits"
	"math/rand"
	"slices"
	"strings"
	"testing"

	"kerbsuite/api"
	"kerbsuite/authenticator"
	"kerbsuite/sample"
)

// orders are the byte orders: little says which.
var orders = []bool{false, true}

// good returns an authenticator without an error in which no two fields are alike.
func good() api.Authenticator {
	return api.Authenticator{
		Client:   api.Principal{Name: "alice", Instance: "admin", Realm: "ATHENA"},
		Checksum: 0x01020304,
		Tick:     150,
		Time:     0x0a0b0c0d,
	}
}

// with returns the authenticator good after a change.
func with(change func(a *api.Authenticator)) api.Authenticator {
	a := good()
	change(&a)
	return a
}

// greatest returns the longest authenticator, with the greatest numbers.
func greatest() api.Authenticator {
	n := sample.Name(39)
	return api.Authenticator{Client: api.Principal{Name: n, Instance: n, Realm: n}, Checksum: 1<<32 - 1, Tick: 199, Time: 1<<32 - 1}
}

// least returns the shortest authenticator, with the least numbers.
func least() api.Authenticator {
	return api.Authenticator{Client: api.Principal{Name: "a", Realm: "R"}}
}

// authenticators are authenticators without an error: the edges of all fields, with every length of the padding.
func authenticators() []api.Authenticator {
	l := []api.Authenticator{least(), greatest(), good()}
	add := func(change func(a *api.Authenticator)) { l = append(l, with(change)) }
	add(func(a *api.Authenticator) { a.Client.Instance = "" })
	add(func(a *api.Authenticator) { a.Client.Instance, a.Client.Realm = "a.b.", "a.B" })
	add(func(a *api.Authenticator) { a.Client.Name, a.Client.Instance, a.Client.Realm = "!~", ".", "." })
	add(func(a *api.Authenticator) { a.Client.Name = "krbtgt" })
	for n := 1; n <= 39; n++ {
		add(func(a *api.Authenticator) { a.Client.Name = sample.Name(n) })
		add(func(a *api.Authenticator) { a.Client.Instance, a.Client.Realm = sample.Name(n), sample.Name(40-n) })
	}
	for n := range 200 {
		add(func(a *api.Authenticator) { a.Tick = n })
	}
	for _, n := range sample.Numbers() {
		add(func(a *api.Authenticator) { a.Checksum = n })
		add(func(a *api.Authenticator) { a.Time = n })
	}
	return l
}

// samples are authenticators with all lengths of the padding.
func samples() []api.Authenticator {
	l := []api.Authenticator{least(), greatest()}
	for n := 1; n <= 8; n++ {
		l = append(l, with(func(a *api.Authenticator) { a.Client.Name = sample.Name(n) }))
	}
	return l
}

// order returns how the numbers of an authenticator are written.
func order(little bool) binary.AppendByteOrder {
	if little {
		return binary.LittleEndian
	}
	return binary.BigEndian
}

// join returns the bytes of a without the padding, whether a has an error or not.
func join(a api.Authenticator, little bool) []byte {
	b := []byte{0}
	if little {
		b[0] = 1
	}
	b = append(b, a.Client.Name+"\x00"+a.Client.Instance+"\x00"+a.Client.Realm+"\x00"...)
	b = order(little).AppendUint32(b, uint32(a.Checksum))
	b = append(b, byte(a.Tick))
	return order(little).AppendUint32(b, uint32(a.Time))
}

// encoding returns what should be the encoding of a, whether a has an error or not.
func encoding(a api.Authenticator, little bool) []byte {
	return sample.Pad(join(a, little))
}

// checkByHand checks an authenticator as P7.1 says.
func checkByHand(a api.Authenticator) api.Errno {
	if !sample.IsPrincipal(a.Client) {
		return api.ErrName
	}
	if a.Checksum < 0 || a.Checksum > 1<<32-1 || a.Tick < 0 || a.Tick > 199 || a.Time < 0 || a.Time > 1<<32-1 {
		return api.ErrRange
	}
	return api.OK
}

// decodeByHand reads an authenticator as P7.2 says, from the front to the back; false says that there is none.
func decodeByHand(b []byte, little bool) (api.Authenticator, bool) {
	var none, a api.Authenticator
	if len(b) == 0 || len(b)%8 != 0 || b[0] > 1 || (b[0] == 1) != little {
		return none, false
	}
	rest := b[1:]
	for _, s := range []*string{&a.Client.Name, &a.Client.Instance, &a.Client.Realm} {
		text, behind, found := bytes.Cut(rest, []byte{0})
		if !found {
			return none, false
		}
		*s, rest = string(text), behind
	}
	if len(rest) < 9 || len(rest) > 16 || len(bytes.Trim(rest[9:], "\x00")) > 0 {
		return none, false
	}
	number := func(b []byte) int { return int(binary.BigEndian.Uint32(b)) }
	if little {
		number = func(b []byte) int { return int(binary.LittleEndian.Uint32(b)) }
	}
	a.Checksum, a.Tick, a.Time = number(rest), int(rest[4]), number(rest[5:])
	if checkByHand(a) != api.OK {
		return none, false
	}
	return a, true
}

// decode compares Decode of b, and Open of a box with it, with decodeByHand, in both byte orders.
// It returns in how many of them b is an encoding.
func decode(t *testing.T, b []byte) int {
	t.Helper()
	count := 0
	for _, little := range orders {
		want, is := decodeByHand(b, little)
		decodeError, openError := api.ErrSyntax, api.ErrUndec
		if is {
			count++
			decodeError, openError = api.OK, api.OK
		}
		if a, e := authenticator.Decode(b, little); a != want || e != decodeError {
			t.Errorf("Decode(%q, %t) = %+v, %d, want %+v, %d", b, little, a, e, want, decodeError)
		}
		if len(b) > api.MaxBody {
			continue
		}
		sealed := sample.Box(api.BoxAuth, sample.Session+77, b)
		if a, e := authenticator.Open(sealed, little, sample.Session+77); a != want || e != openError {
			t.Errorf("Open(%q, %t) = %+v, %d, want %+v, %d", sealed, little, a, e, want, openError)
		}
	}
	return count
}

// syntax says that b is no encoding in any byte order.
func syntax(t *testing.T, b []byte) {
	t.Helper()
	if n := decode(t, b); n != 0 {
		t.Errorf("decodeByHand takes %q in %d byte orders", b, n)
	}
}

// refused says that Check, Encode and Seal must return the error of a, whatever the byte order and the key are.
func refused(t *testing.T, a api.Authenticator, want api.Errno) {
	t.Helper()
	if e := authenticator.Check(a); e != want {
		t.Errorf("Check(%+v) = %d, want %d", a, e, want)
	}
	for _, little := range orders {
		if b, e := authenticator.Encode(a, little); len(b) != 0 || e != want {
			t.Errorf("Encode(%+v, %t) = %q, %d, want %d", a, little, b, e, want)
		}
		for _, k := range []api.Key{sample.Session + 1, sample.LongTerm + 1, 0, 77} {
			if b, e := authenticator.Seal(a, little, k); len(b) != 0 || e != want {
				t.Errorf("Seal(%+v, %t, %#x) = %q, %d, want %d", a, little, uint64(k), b, e, want)
			}
		}
	}
}

// accepted says that a has no error.
func accepted(t *testing.T, a api.Authenticator) {
	t.Helper()
	if e := authenticator.Check(a); e != api.OK {
		t.Errorf("Check(%+v) = %d", a, e)
	}
	for _, little := range orders {
		b, e := authenticator.Encode(a, little)
		if want := encoding(a, little); !bytes.Equal(b, want) || e != api.OK {
			t.Errorf("Encode(%+v, %t) = %q, %d, want %q", a, little, b, e, want)
		}
	}
}

// texts returns the three texts of the client of a.
func texts(a *api.Authenticator) []*string {
	return []*string{&a.Client.Name, &a.Client.Instance, &a.Client.Realm}
}

// P7.1: every byte in every text of the client, alone and behind another one.
func TestCheckClients(t *testing.T) {
	for i, forbidden := range []string{".@", "@", "@"} {
		for c := range 256 {
			for _, front := range []string{"", "x"} {
				a := good()
				*texts(&a)[i] = front + string([]byte{byte(c)})
				if c < 33 || c > 126 || strings.IndexByte(forbidden, byte(c)) >= 0 {
					refused(t, a, api.ErrName)
				} else {
					accepted(t, a)
				}
			}
		}
	}
}

// P7.1: only the instance may be empty, and no text has more than 39 bytes.
func TestCheckLengths(t *testing.T) {
	for i, least := range []int{1, 0, 1} {
		for _, n := range []int{0, 1, 2, 38, 39, 40, 41, 79, 80, 255, 256, 257, 1000} {
			a := good()
			*texts(&a)[i] = sample.Name(n)
			if n < least || n > 39 {
				refused(t, a, api.ErrName)
			} else {
				accepted(t, a)
			}
		}
	}
	refused(t, api.Authenticator{}, api.ErrName)
}

// numberFields are the numbers of an authenticator, with their limits.
var numberFields = []struct {
	greatest int
	set      func(a *api.Authenticator, n int)
}{
	{1<<32 - 1, func(a *api.Authenticator, n int) { a.Checksum = n }},
	{199, func(a *api.Authenticator, n int) { a.Tick = n }},
	{1<<32 - 1, func(a *api.Authenticator, n int) { a.Time = n }},
}

// P7.1: a number that is negative, 0, the greatest one, and one more.
func TestCheckNumbers(t *testing.T) {
	for _, f := range numberFields {
		for _, n := range sample.Outside(f.greatest) {
			refused(t, with(func(a *api.Authenticator) { f.set(a, n) }), api.ErrRange)
		}
		for _, n := range sample.Inside(f.greatest) {
			accepted(t, with(func(a *api.Authenticator) { f.set(a, n) }))
		}
	}
}

// P7.1: a tick is no more than 199, although a byte is more.
func TestCheckTicks(t *testing.T) {
	for n := -300; n <= 600; n++ {
		a := with(func(a *api.Authenticator) { a.Tick = n })
		if 0 <= n && n <= 199 {
			accepted(t, a)
		} else {
			refused(t, a, api.ErrRange)
		}
	}
}

// P7.1: an error of the client comes before an error of a number, whatever else is wrong.
func TestCheckOrder(t *testing.T) {
	clients := []func(a *api.Authenticator){
		func(a *api.Authenticator) {},
		func(a *api.Authenticator) { a.Client.Name = "" },
		func(a *api.Authenticator) { a.Client.Name = "a.b" },
		func(a *api.Authenticator) { a.Client.Instance = "@" },
		func(a *api.Authenticator) { a.Client.Realm = "" },
		func(a *api.Authenticator) { a.Client.Realm = sample.Name(40) },
	}
	for i, badClient := range clients {
		for set := range 8 {
			for _, bad := range []int{-1, math.MaxInt, math.MinInt} {
				a := good()
				badClient(&a)
				for j, f := range numberFields {
					if set>>j&1 == 1 {
						f.set(&a, bad)
					}
				}
				switch {
				case i > 0:
					refused(t, a, api.ErrName)
				case set > 0:
					refused(t, a, api.ErrRange)
				default:
					accepted(t, a)
				}
			}
		}
	}
}

// P7.2: encodings that are written out.
func TestEncode(t *testing.T) {
	one := api.Authenticator{Client: api.Principal{Name: "a", Instance: "b", Realm: "c"}, Checksum: 1<<32 - 1, Tick: 199, Time: 1<<32 - 2}
	tests := []struct {
		a      api.Authenticator
		little bool
		want   string
	}{
		{good(), true, "\x01alice\x00admin\x00ATHENA\x00" + "\x04\x03\x02\x01" + "\x96" + "\x0d\x0c\x0b\x0a" + "\x00\x00\x00"},
		{good(), false, "\x00alice\x00admin\x00ATHENA\x00" + "\x01\x02\x03\x04" + "\x96" + "\x0a\x0b\x0c\x0d" + "\x00\x00\x00"},
		{least(), true, "\x01a\x00\x00R\x00" + "\x00\x00\x00\x00" + "\x00" + "\x00\x00\x00\x00" + "\x00"},
		{least(), false, "\x00a\x00\x00R\x00" + "\x00\x00\x00\x00" + "\x00" + "\x00\x00\x00\x00" + "\x00"},
		{one, true, "\x01a\x00b\x00c\x00" + "\xff\xff\xff\xff" + "\xc7" + "\xfe\xff\xff\xff"},
		{one, false, "\x00a\x00b\x00c\x00" + "\xff\xff\xff\xff" + "\xc7" + "\xff\xff\xff\xfe"},
	}
	for _, x := range tests {
		if b, e := authenticator.Encode(x.a, x.little); string(b) != x.want || e != api.OK {
			t.Errorf("Encode(%+v, %t) = %q, %d, want %q", x.a, x.little, b, e, x.want)
		}
		if a, e := authenticator.Decode([]byte(x.want), x.little); a != x.a || e != api.OK {
			t.Errorf("Decode(%q, %t) = %+v, %d, want %+v", x.want, x.little, a, e, x.a)
		}
		if a, e := authenticator.Decode([]byte(x.want), !x.little); a != (api.Authenticator{}) || e != api.ErrSyntax {
			t.Errorf("Decode(%q, %t) = %+v, %d", x.want, !x.little, a, e)
		}
	}
}

// P7.2: the example of chapter 7 has 16 bytes, so that no padding follows.
func TestEncodeExample(t *testing.T) {
	a := api.Authenticator{Client: api.Principal{Name: "a", Instance: "b", Realm: "c"}}
	for _, little := range orders {
		if b, e := authenticator.Encode(a, little); len(b) != 16 || e != api.OK {
			t.Errorf("Encode of the example = %q, %d", b, e)
		}
	}
}

// P7.2, P7.4: the edges of all fields are encoded as they should be, and decoded as they were in their own byte order alone.
func TestEncodeDecode(t *testing.T) {
	paddings := map[int]bool{}
	for _, x := range authenticators() {
		accepted(t, x)
		for _, little := range orders {
			b := encoding(x, little)
			if a, e := authenticator.Decode(b, little); a != x || e != api.OK {
				t.Errorf("Decode(%q, %t) = %+v, %d, want %+v", b, little, a, e, x)
			}
			if a, e := authenticator.Decode(b, !little); a != (api.Authenticator{}) || e != api.ErrSyntax {
				t.Errorf("Decode(%q, %t) = %+v, %d", b, !little, a, e)
			}
			if n := decode(t, b); n != 1 {
				t.Errorf("decodeByHand takes %q in %d byte orders", b, n)
			}
			paddings[len(b)-len(join(x, little))] = true
		}
	}
	if len(paddings) != 8 {
		t.Errorf("the authenticators have the paddings %v only", paddings)
	}
}

// P7.2: no bytes are no authenticator, and the first byte is 0 or 1.
func TestDecodeFirst(t *testing.T) {
	for _, none := range [][]byte{nil, {}, make([]byte, 0, 40)} {
		syntax(t, none)
	}
	rests := [][]byte{nil, {0}, make([]byte, 7), make([]byte, 15), []byte("no authenticator"), encoding(good(), true)[1:], encoding(greatest(), false)[1:], encoding(least(), true)[1:], join(good(), true)[1:], make([]byte, 2000)}
	for c := 2; c < 256; c++ {
		for _, rest := range rests {
			syntax(t, slices.Concat([]byte{byte(c)}, rest))
		}
	}
	for c := range 2 {
		for n := range 64 {
			syntax(t, append([]byte{byte(c)}, make([]byte, n)...))
		}
		syntax(t, append([]byte{byte(c)}, "no authenticator at all, but as long as one"...))
		syntax(t, append([]byte{byte(c)}, make([]byte, 2000)...))
	}
}

// P7.2: who changes the first byte gets the numbers of the other byte order, and only who asks for that one reads them.
func TestDecodeByteOrder(t *testing.T) {
	for _, x := range authenticators() {
		for _, little := range orders {
			b := encoding(x, little)
			b[0] = 1 - b[0]
			want := x
			want.Checksum, want.Time = int(bits.ReverseBytes32(uint32(x.Checksum))), int(bits.ReverseBytes32(uint32(x.Time)))
			if a, e := authenticator.Decode(b, !little); a != want || e != api.OK {
				t.Errorf("Decode(%q, %t) = %+v, %d, want %+v", b, !little, a, e, want)
			}
			if a, e := authenticator.Decode(b, little); a != (api.Authenticator{}) || e != api.ErrSyntax {
				t.Errorf("Decode(%q, %t) = %+v, %d", b, little, a, e)
			}
		}
	}
}

// encodings are the encodings of the samples in both byte orders, and without their padding.
func encodings() (whole, plain [][]byte) {
	for _, x := range samples() {
		for _, little := range orders {
			plain = append(plain, join(x, little))
			whole = append(whole, encoding(x, little))
		}
	}
	return whole, plain
}

// P7.2: nothing that is shorter than an encoding is one, with or without the bytes behind the end of the slice.
func TestDecodeCutShort(t *testing.T) {
	whole, _ := encodings()
	for _, b := range whole {
		for n := range b {
			syntax(t, b[:n])
			syntax(t, b[:n:n])
		}
	}
}

// P7.2: an encoding that is cut short and padded again is none, unless only bytes were cut off that are zero.
func TestDecodeCutAndPadded(t *testing.T) {
	whole, _ := encodings()
	for _, b := range whole {
		for _, part := range sample.Cut(b) {
			decode(t, sample.Pad(part))
			decode(t, slices.Concat(part, make([]byte, len(b)-len(part))))
		}
	}
}

// P7.2: nothing follows an encoding, not even zero bytes, and nothing is in front of it.
func TestDecodeTrailing(t *testing.T) {
	whole, _ := encodings()
	for _, b := range whole {
		for _, longer := range sample.Trailed(b) {
			syntax(t, longer)
		}
		for n := 1; n <= 24; n++ {
			syntax(t, slices.Concat(bytes.Repeat(b[:1], n), b))
		}
	}
}

// P7.2: the padding has the right length, from 0 to 7, and all its bytes are zero.
func TestDecodePadding(t *testing.T) {
	whole, plain := encodings()
	seen := map[int]bool{}
	for i, b := range plain {
		seen[len(whole[i])-len(b)] = true
		for _, wrong := range sample.WronglyPadded(b) {
			syntax(t, wrong)
		}
	}
	if len(seen) != 8 {
		t.Errorf("the samples have the paddings %v only", seen)
	}
}

// P7.2: an encoding in which one byte was changed, to every other value.
func TestDecodeChanged(t *testing.T) {
	for _, x := range samples() {
		for _, little := range orders {
			b := encoding(x, little)
			for i := range b {
				for _, other := range sample.Changed(b, i) {
					decode(t, other)
					if a, e := authenticator.Decode(other, little); e == api.OK && a == x {
						t.Errorf("Decode(%q, %t) is the authenticator of another encoding", other, little)
					}
				}
			}
		}
	}
}

// P7.2: an encoding without one of its bytes, and with one more, padded anew.
func TestDecodeShifted(t *testing.T) {
	_, plain := encodings()
	for _, b := range plain {
		for _, other := range sample.Shifted(b) {
			decode(t, sample.Pad(other))
		}
	}
}

// P7.2: what would be the encoding of an authenticator with an error is none.
func TestDecodeErrors(t *testing.T) {
	for _, little := range orders {
		for i := range 3 {
			for _, s := range sample.NoNames() {
				a := good()
				*texts(&a)[i] = s
				if checkByHand(a) != api.OK {
					syntax(t, encoding(a, little))
				}
			}
		}
		for tick := 200; tick < 256; tick++ {
			syntax(t, encoding(with(func(a *api.Authenticator) { a.Tick = tick }), little))
		}
	}
}

// P7.3, P7.4: what was sealed is opened as it was, in its own byte order alone, with the keys of both classes.
func TestSealOpen(t *testing.T) {
	for _, x := range authenticators() {
		for _, k := range sample.Keys() {
			for _, little := range orders {
				b, e := authenticator.Seal(x, little, k)
				if want := sample.Box(api.BoxAuth, k, encoding(x, little)); !bytes.Equal(b, want) || e != api.OK {
					t.Errorf("Seal(%+v, %t, %#x) = %q, %d, want %q", x, little, uint64(k), b, e, want)
				}
				if a, e := authenticator.Open(b, little, k); a != x || e != api.OK {
					t.Errorf("Open(%q, %t, %#x) = %+v, %d, want %+v", b, little, uint64(k), a, e, x)
				}
				closed(t, b, !little, k)
			}
		}
	}
}

// P7.3: sealed authenticators are written out.
func TestSealBytes(t *testing.T) {
	const head = "\x42\x02\x02\x00\x00\x00\x00\x00\x00\x07\x00\x10"
	x := api.Authenticator{Client: api.Principal{Name: "a", Realm: "R"}, Checksum: 258, Tick: 3, Time: 1000}
	for _, little := range orders {
		want := head + "\x00a\x00\x00R\x00" + "\x00\x00\x01\x02" + "\x03" + "\x00\x00\x03\xe8" + "\x00"
		if little {
			want = head + "\x01a\x00\x00R\x00" + "\x02\x01\x00\x00" + "\x03" + "\xe8\x03\x00\x00" + "\x00"
		}
		if b, e := authenticator.Seal(x, little, sample.Session+7); string(b) != want || e != api.OK {
			t.Errorf("Seal = %q, %d, want %q", b, e, want)
		}
		if a, e := authenticator.Open([]byte(want), little, sample.Session+7); a != x || e != api.OK {
			t.Errorf("Open = %+v, %d", a, e)
		}
	}
}

// P7.3: a key that is not valid; an error of the authenticator comes before it (function refused tries this).
func TestSealErrors(t *testing.T) {
	for _, x := range samples() {
		for _, k := range sample.NoKeys() {
			for _, little := range orders {
				if b, e := authenticator.Seal(x, little, k); len(b) != 0 || e != api.ErrNullKey {
					t.Errorf("Seal(%+v, %t, %#x) = %q, %d", x, little, uint64(k), b, e)
				}
			}
		}
	}
	refused(t, with(func(a *api.Authenticator) { a.Tick = 200 }), api.ErrRange)
	refused(t, with(func(a *api.Authenticator) { a.Client.Instance = "@" }), api.ErrName)
}

// closed says that Open must return ErrUndec.
func closed(t *testing.T, b []byte, little bool, k api.Key) {
	t.Helper()
	if a, e := authenticator.Open(b, little, k); a != (api.Authenticator{}) || e != api.ErrUndec {
		t.Errorf("Open(%q, %t, %#x) = %+v, %d, want ErrUndec", b, little, uint64(k), a, e)
	}
}

// neverOpen says that Open must return ErrUndec in both byte orders.
func neverOpen(t *testing.T, b []byte, k api.Key) {
	t.Helper()
	for _, little := range orders {
		closed(t, b, little, k)
	}
}

// P7.3: a box is not opened with another key, valid or not.
func TestOpenKeys(t *testing.T) {
	bodies, _ := encodings()
	for _, body := range bodies {
		for _, k := range sample.Keys() {
			b := sample.Box(api.BoxAuth, k, body)
			for _, other := range sample.OtherKeys(k) {
				neverOpen(t, b, other)
			}
		}
	}
}

// P7.3: a box of another kind, a text that is not exactly a box, and a box whose key is not valid.
func TestOpenBoxes(t *testing.T) {
	k := sample.Session + 77
	for _, little := range orders {
		body := encoding(good(), little)
		for _, b := range sample.NoBoxes(api.BoxAuth, k, body) {
			neverOpen(t, b, k)
			neverOpen(t, b, 0)
		}
		for _, bad := range sample.NoKeys() {
			neverOpen(t, sample.Box(api.BoxAuth, bad, body), bad)
		}
	}
}

// P7.3: a body that is no authenticator gives ErrUndec, and not the error of Decode.
func TestOpenBodies(t *testing.T) {
	k := sample.Session + 77
	whole := encoding(good(), true)
	bodies := [][]byte{
		nil,
		{0},
		{1},
		{2},
		{255},
		slices.Concat([]byte{2}, whole[1:]),
		whole[:len(whole)-1],
		whole[:len(whole)-8],
		join(good(), true),
		slices.Concat(whole, []byte{0}),
		slices.Concat(whole, make([]byte, 8)),
		make([]byte, 16),
		make([]byte, api.MaxBody),
		bytes.Repeat([]byte{66}, api.MaxBody),
		slices.Concat(whole, make([]byte, api.MaxBody-len(whole))),
		sample.Box(api.BoxAuth, k, whole),
		encoding(with(func(a *api.Authenticator) { a.Tick = 200 }), true),
		encoding(with(func(a *api.Authenticator) { a.Client.Name = "" }), true),
	}
	for _, body := range bodies {
		b := sample.Box(api.BoxAuth, k, body)
		neverOpen(t, b, k)
		neverOpen(t, b, k+1)
		neverOpen(t, b, 0)
	}
}

// P7.4: different authenticators have different encodings, and so has one in the two byte orders.
func TestEncodingsDiffer(t *testing.T) {
	type encoded struct {
		a      api.Authenticator
		little bool
	}
	seen := map[string]encoded{}
	for _, x := range append(authenticators(), samples()...) {
		for _, little := range orders {
			b, _ := authenticator.Encode(x, little)
			now := encoded{x, little}
			if before, found := seen[string(b)]; found && before != now {
				t.Errorf("%+v and %+v have the encoding %q", before, now, b)
			}
			seen[string(b)] = now
		}
	}
}

// randomAuthenticator returns an authenticator that has an error about half of the time.
func randomAuthenticator(r *rand.Rand) api.Authenticator {
	return api.Authenticator{
		Client:   api.Principal{Name: sample.Text(r.Intn), Instance: sample.Text(r.Intn), Realm: sample.Text(r.Intn)},
		Checksum: sample.Number(r.Intn, 1<<32-1),
		Tick:     sample.Number(r.Intn, 199),
		Time:     sample.Number(r.Intn, 1<<32-1),
	}
}

// P7.1 to P7.4: authenticators of all sorts.
func TestRandomAuthenticators(t *testing.T) {
	r := rand.New(rand.NewSource(7))
	seen := map[api.Errno]int{}
	for range 20000 {
		x := randomAuthenticator(r)
		want := checkByHand(x)
		seen[want]++
		if want != api.OK {
			refused(t, x, want)
			continue
		}
		accepted(t, x)
		for _, little := range orders {
			b, e := authenticator.Seal(x, little, sample.Session+77)
			if a, e2 := authenticator.Open(b, little, sample.Session+77); a != x || e != api.OK || e2 != api.OK {
				t.Errorf("Open(Seal(%+v, %t)) = %+v, %d, %d", x, little, a, e, e2)
			}
			closed(t, b, !little, sample.Session+77)
		}
	}
	for _, e := range []api.Errno{api.OK, api.ErrName, api.ErrRange} {
		if seen[e] < 100 {
			t.Errorf("only %d authenticators with the error %d", seen[e], e)
		}
	}
}

// G1, P7.2, P7.3: texts of all sorts, made of random bytes and of what encodings are made of.
func TestRandomTexts(t *testing.T) {
	r := rand.New(rand.NewSource(8))
	alphabet := []byte{0, 0, 0, 0, 1, 2, 'a', 'b', '.', '@', 66, 255}
	taken := 0
	for range 40000 {
		b := make([]byte, r.Intn(40))
		if r.Intn(3) == 0 {
			b = make([]byte, 16)
		}
		for i := range b {
			b[i] = alphabet[r.Intn(len(alphabet))]
			if r.Intn(10) == 0 {
				b[i] = byte(r.Intn(256))
			}
		}
		if len(b) > 0 && r.Intn(4) > 0 {
			b[0] = byte(r.Intn(2))
		}
		taken += decode(t, b)
		for _, k := range []api.Key{0, sample.Session + 1, api.Key(r.Uint64())} {
			neverOpen(t, b, k)
		}
	}
	if taken == 0 {
		t.Error("none of the texts is an encoding")
	}
}

// P7.2: encodings in which several bytes were changed.
func TestRandomChanges(t *testing.T) {
	r := rand.New(rand.NewSource(9))
	l, _ := encodings()
	for range 20000 {
		b := slices.Clone(l[r.Intn(len(l))])
		for range 1 + r.Intn(3) {
			b[r.Intn(len(b))] = byte(r.Intn(256))
		}
		decode(t, b)
	}
}

// G2: Decode and Open change no argument, nor what is behind it, and do not read what is behind it.
func TestArguments(t *testing.T) {
	k := sample.Session + 77
	bodies, _ := encodings()
	for _, body := range bodies {
		for _, b := range [][]byte{body, body[:len(body)-1], slices.Concat(body, []byte{1}), sample.Box(api.BoxAuth, k, body), sample.Box(api.BoxAuth, k, nil), nil, {2}} {
			for _, little := range orders {
				part := sample.Framed(b)
				store := part[:cap(part)]
				before := slices.Clone(store)
				x, e := authenticator.Decode(part, little)
				y, e2 := authenticator.Open(part, little, k)
				if !bytes.Equal(store, before) {
					t.Errorf("Decode or Open has changed %q to %q", before, store)
				}
				alone := slices.Clip(slices.Clone(b))
				if x2, e3 := authenticator.Decode(alone, little); x2 != x || e3 != e {
					t.Errorf("Decode(%q, %t) depends on what is behind it", b, little)
				}
				if y2, e3 := authenticator.Open(alone, little, k); y2 != y || e3 != e2 {
					t.Errorf("Open(%q, %t) depends on what is behind it", b, little)
				}
			}
		}
	}
}

// LANGUAGE.md, rule 7: a result shares no memory with an argument, nor with another result.
func TestNewMemory(t *testing.T) {
	for _, x := range samples() {
		for _, little := range orders {
			results := []func() []byte{
				func() []byte { b, _ := authenticator.Encode(x, little); return b },
				func() []byte { b, _ := authenticator.Seal(x, little, sample.Session+77); return b },
			}
			for _, result := range results {
				a, b := result(), result()
				want := slices.Clone(b)
				clear(a[:cap(a)])
				if !bytes.Equal(b, want) || !bytes.Equal(result(), want) {
					t.Errorf("the results for %+v share memory", x)
				}
			}
			b := encoding(x, little)
			sealed := sample.Box(api.BoxAuth, sample.Session+77, b)
			y, _ := authenticator.Decode(b, little)
			z, _ := authenticator.Open(sealed, little, sample.Session+77)
			clear(b)
			clear(sealed)
			if y != x || z != x {
				t.Errorf("%+v and %+v share memory with the texts that they were read from", y, z)
			}
		}
	}
}

// G2: the same arguments give the same results, in whatever order and however often the functions are called.
func TestSameResults(t *testing.T) {
	type call struct {
		index  int
		little bool
	}
	first := map[call][]byte{}
	keys := sample.Keys()
	for range 3 {
		for i, x := range authenticators() {
			for _, little := range orders {
				b, e := authenticator.Seal(x, little, keys[i%len(keys)])
				before, found := first[call{i, little}]
				if e != api.OK || found && !bytes.Equal(b, before) {
					t.Errorf("Seal(%+v, %t) = %q, %d, and before %q", x, little, b, e, before)
				}
				first[call{i, little}] = b
				authenticator.Decode(b, little)
				authenticator.Check(api.Authenticator{})
			}
		}
	}
}
