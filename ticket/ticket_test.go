package ticket_test

import (
	"bytes"
	"encoding/binary"
	"math/bits"
	"math/rand"
	"slices"
	"strings"
	"testing"

	"kerbsuite/api"
	"kerbsuite/sample"
	"kerbsuite/ticket"
)

// badSessions returns keys that no ticket has: those that are not valid, and those of the other class.
func badSessions() []api.Key {
	return append(sample.NoKeys(), sample.LongTerm+1, sample.LongTerm+5, sample.LongTerm+0xffff_ffff)
}

// good returns a ticket without an error in which no two fields are alike.
func good() api.Ticket {
	return api.Ticket{
		Little:   true,
		Client:   api.Principal{Name: "alice", Instance: "admin", Realm: "ATHENA"},
		Address:  0x01020304,
		Session:  sample.Session + 0x05060708,
		Life:     9,
		Issued:   0x0a0b0c0d,
		Service:  "rcmd",
		Instance: "host.mit",
	}
}

// with returns the ticket good after a change.
func with(change func(t *api.Ticket)) api.Ticket {
	t := good()
	change(&t)
	return t
}

// greatest returns the longest ticket, with the greatest numbers.
func greatest(little bool) api.Ticket {
	n := sample.Name(39)
	return api.Ticket{Little: little, Client: api.Principal{Name: n, Instance: n, Realm: n}, Address: 1<<32 - 1, Session: sample.Session + 0xffff_ffff, Life: 255, Issued: 1<<32 - 1, Service: n, Instance: n}
}

// least returns the shortest ticket, with the least numbers.
func least(little bool) api.Ticket {
	return api.Ticket{Little: little, Client: api.Principal{Name: "a", Realm: "R"}, Session: sample.Session + 1, Service: "s"}
}

// tickets are tickets without an error: the edges of all fields, in both byte orders, with every length of the padding.
func tickets() []api.Ticket {
	var l []api.Ticket
	for _, little := range []bool{false, true} {
		l = append(l, least(little), greatest(little))
		add := func(change func(t *api.Ticket)) {
			t := with(change)
			t.Little = little
			l = append(l, t)
		}
		add(func(t *api.Ticket) {})
		add(func(t *api.Ticket) { t.Instance = "" })
		add(func(t *api.Ticket) { t.Client.Instance = "" })
		add(func(t *api.Ticket) { t.Client.Instance, t.Instance = "", "" })
		add(func(t *api.Ticket) { t.Client.Instance, t.Client.Realm, t.Instance = "a.b.", "a.B", "." })
		add(func(t *api.Ticket) { t.Client.Name, t.Service = "!~", "~!" })
		add(func(t *api.Ticket) { t.Service = "krbtgt" })
		for n := 1; n <= 39; n++ {
			add(func(t *api.Ticket) { t.Client.Name = sample.Name(n) })
			add(func(t *api.Ticket) { t.Service, t.Instance = sample.Name(n), sample.Name(40-n) })
		}
		for _, n := range []int{0, 1, 127, 128, 254, 255} {
			add(func(t *api.Ticket) { t.Life = n })
		}
		for _, n := range sample.Numbers() {
			add(func(t *api.Ticket) { t.Address = n })
			add(func(t *api.Ticket) { t.Issued = n })
		}
		for _, k := range []api.Key{1, 2, 255, 256, 1<<31 - 1, 1 << 31, 1<<32 - 2, 1<<32 - 1} {
			add(func(t *api.Ticket) { t.Session = sample.Session + k })
		}
	}
	return l
}

// order returns how the numbers of a ticket are written.
func order(little bool) binary.AppendByteOrder {
	if little {
		return binary.LittleEndian
	}
	return binary.BigEndian
}

// join returns the bytes of t without the padding, whether t has an error or not.
func join(t api.Ticket) []byte {
	b := []byte{0}
	if t.Little {
		b[0] = 1
	}
	b = append(b, t.Client.Name+"\x00"+t.Client.Instance+"\x00"+t.Client.Realm+"\x00"...)
	b = order(t.Little).AppendUint32(b, uint32(t.Address))
	b = binary.BigEndian.AppendUint64(b, uint64(t.Session))
	b = append(b, byte(t.Life))
	b = order(t.Little).AppendUint32(b, uint32(t.Issued))
	return append(b, t.Service+"\x00"+t.Instance+"\x00"...)
}

// isSession says by its bytes whether k is a session key.
func isSession(k api.Key) bool {
	return k>>56 == 2 && k<<8>>40 == 0 && uint32(k) != 0
}

// checkByHand checks a ticket as P6.1 says.
func checkByHand(t api.Ticket) api.Errno {
	if !sample.IsPrincipal(t.Client) || !sample.IsName(t.Service) || !sample.IsInstance(t.Instance) {
		return api.ErrName
	}
	if !isSession(t.Session) {
		return api.ErrNullKey
	}
	if t.Address < 0 || t.Address > 1<<32-1 || t.Life < 0 || t.Life > 255 || t.Issued < 0 || t.Issued > 1<<32-1 {
		return api.ErrRange
	}
	return api.OK
}

// split cuts a text off b; it returns false if there is no zero byte.
func split(b []byte) (string, []byte, bool) {
	s, rest, found := bytes.Cut(b, []byte{0})
	return string(s), rest, found
}

// decodeByHand reads a ticket as P6.2 says, from the front to the back.
func decodeByHand(b []byte) (api.Ticket, api.Errno) {
	var none, t api.Ticket
	switch {
	case len(b) == 0:
		return none, api.ErrSyntax
	case b[0] > 1:
		return none, api.ErrByteOrder
	case len(b)%8 != 0:
		return none, api.ErrSyntax
	}
	t.Little = b[0] == 1
	number := func(b []byte) int { return int(binary.BigEndian.Uint32(b)) }
	if t.Little {
		number = func(b []byte) int { return int(binary.LittleEndian.Uint32(b)) }
	}
	rest, found := b[1:], true
	for _, s := range []*string{&t.Client.Name, &t.Client.Instance, &t.Client.Realm} {
		if *s, rest, found = split(rest); !found {
			return none, api.ErrSyntax
		}
	}
	if len(rest) < 17 {
		return none, api.ErrSyntax
	}
	t.Address, t.Session, t.Life, t.Issued = number(rest), api.Key(binary.BigEndian.Uint64(rest[4:])), int(rest[12]), number(rest[13:])
	rest = rest[17:]
	for _, s := range []*string{&t.Service, &t.Instance} {
		if *s, rest, found = split(rest); !found {
			return none, api.ErrSyntax
		}
	}
	if len(rest) > 7 || len(bytes.Trim(rest, "\x00")) > 0 || checkByHand(t) != api.OK {
		return none, api.ErrSyntax
	}
	return t, api.OK
}

// decode compares Decode of b, and Open of a box with it, with decodeByHand, and returns the error.
func decode(t *testing.T, b []byte) api.Errno {
	t.Helper()
	want, wantError := decodeByHand(b)
	if x, e := ticket.Decode(b); x != want || e != wantError {
		t.Errorf("Decode(%q) = %+v, %d, want %+v, %d", b, x, e, want, wantError)
	}
	if len(b) > api.MaxBody {
		return wantError
	}
	if x, e := ticket.Open(sample.Box(api.BoxTicket, sample.LongTerm+77, b), sample.LongTerm+77); x != want || e != wantError {
		t.Errorf("Open of a box with %q = %+v, %d, want %+v, %d", b, x, e, want, wantError)
	}
	return wantError
}

// syntax says that Decode of b must return ErrSyntax, and compares it.
func syntax(t *testing.T, b []byte) {
	t.Helper()
	if e := decode(t, b); e != api.ErrSyntax {
		t.Errorf("decodeByHand(%q) returns %d", b, e)
	}
}

// refused says that Check, Encode and Seal must return the error of x, whatever the key is.
func refused(t *testing.T, x api.Ticket, want api.Errno) {
	t.Helper()
	if e := ticket.Check(x); e != want {
		t.Errorf("Check(%+v) = %d, want %d", x, e, want)
	}
	if b, e := ticket.Encode(x); len(b) != 0 || e != want {
		t.Errorf("Encode(%+v) = %q, %d, want %d", x, b, e, want)
	}
	for _, k := range []api.Key{sample.LongTerm + 1, sample.Session + 1, 0, 77} {
		if b, e := ticket.Seal(x, k); len(b) != 0 || e != want {
			t.Errorf("Seal(%+v, %#x) = %q, %d, want %d", x, uint64(k), b, e, want)
		}
	}
}

// accepted says that x has no error.
func accepted(t *testing.T, x api.Ticket) {
	t.Helper()
	if e := ticket.Check(x); e != api.OK {
		t.Errorf("Check(%+v) = %d", x, e)
	}
	b, e := ticket.Encode(x)
	if want := sample.Pad(join(x)); !bytes.Equal(b, want) || e != api.OK {
		t.Errorf("Encode(%+v) = %q, %d, want %q", x, b, e, want)
	}
}

// nameFields returns the five texts of a ticket, and whether each is a name, an instance or a realm.
func nameFields(x *api.Ticket) ([]*string, []byte) {
	return []*string{&x.Client.Name, &x.Client.Instance, &x.Client.Realm, &x.Service, &x.Instance}, []byte("nirni")
}

// P6.1: every byte in every text, alone and behind another one.
func TestCheckNames(t *testing.T) {
	for i := range 5 {
		for c := range 256 {
			for _, front := range []string{"", "x"} {
				x := good()
				texts, kinds := nameFields(&x)
				*texts[i] = front + string([]byte{byte(c)})
				forbidden := "@"
				if kinds[i] == 'n' {
					forbidden = ".@"
				}
				if c < 33 || c > 126 || strings.IndexByte(forbidden, byte(c)) >= 0 {
					refused(t, x, api.ErrName)
				} else {
					accepted(t, x)
				}
			}
		}
	}
}

// P6.1: only an instance may be empty, and no text has more than 39 bytes.
func TestCheckLengths(t *testing.T) {
	for i := range 5 {
		for _, n := range []int{0, 1, 2, 38, 39, 40, 41, 79, 80, 255, 256, 257, 1000} {
			x := good()
			texts, kinds := nameFields(&x)
			*texts[i] = sample.Name(n)
			if n > 39 || n == 0 && kinds[i] != 'i' {
				refused(t, x, api.ErrName)
			} else {
				accepted(t, x)
			}
		}
	}
	accepted(t, with(func(x *api.Ticket) { x.Client.Instance, x.Instance = "", "" }))
	refused(t, api.Ticket{}, api.ErrName)
}

// P6.1: only a valid key of the class api.Session is a session key.
func TestCheckSession(t *testing.T) {
	for _, k := range badSessions() {
		refused(t, with(func(x *api.Ticket) { x.Session = k }), api.ErrNullKey)
	}
	for _, k := range []api.Key{1, 2, 77, 1 << 16, 1 << 31, 1<<32 - 2, 1<<32 - 1} {
		accepted(t, with(func(x *api.Ticket) { x.Session = sample.Session + k }))
	}
}

// P6.1: a number that is negative, 0, the greatest one, and one more.
func TestCheckNumbers(t *testing.T) {
	fields := []struct {
		greatest int
		set      func(x *api.Ticket, n int)
	}{
		{1<<32 - 1, func(x *api.Ticket, n int) { x.Address = n }},
		{255, func(x *api.Ticket, n int) { x.Life = n }},
		{1<<32 - 1, func(x *api.Ticket, n int) { x.Issued = n }},
	}
	for _, f := range fields {
		for _, n := range sample.Outside(f.greatest) {
			refused(t, with(func(x *api.Ticket) { f.set(x, n) }), api.ErrRange)
		}
		for _, n := range sample.Inside(f.greatest) {
			accepted(t, with(func(x *api.Ticket) { f.set(x, n) }))
		}
	}
}

// P6.1: an error of a name comes before that of the session key, and that before an error of a number, whatever else is wrong.
func TestCheckOrder(t *testing.T) {
	names := []func(x *api.Ticket){
		func(x *api.Ticket) {},
		func(x *api.Ticket) { x.Client.Name = "" },
		func(x *api.Ticket) { x.Client.Instance = "@" },
		func(x *api.Ticket) { x.Client.Realm = "" },
		func(x *api.Ticket) { x.Service = "a.b" },
		func(x *api.Ticket) { x.Instance = sample.Name(40) },
	}
	keys := []func(x *api.Ticket){
		func(x *api.Ticket) {},
		func(x *api.Ticket) { x.Session = 0 },
		func(x *api.Ticket) { x.Session = sample.LongTerm + 5 },
	}
	numbers := []func(x *api.Ticket){
		func(x *api.Ticket) {},
		func(x *api.Ticket) { x.Address = -1 },
		func(x *api.Ticket) { x.Life = 256 },
		func(x *api.Ticket) { x.Issued = 1 << 32 },
	}
	for i, badName := range names {
		for j, badKey := range keys {
			for k, badNumber := range numbers {
				x := good()
				badName(&x)
				badKey(&x)
				badNumber(&x)
				switch {
				case i > 0:
					refused(t, x, api.ErrName)
				case j > 0:
					refused(t, x, api.ErrNullKey)
				case k > 0:
					refused(t, x, api.ErrRange)
				default:
					accepted(t, x)
				}
			}
		}
	}
}

// P6.2: encodings that are written out.
func TestEncode(t *testing.T) {
	little := "\x01alice\x00admin\x00ATHENA\x00" + "\x04\x03\x02\x01" + "\x02\x00\x00\x00\x05\x06\x07\x08" + "\x09" + "\x0d\x0c\x0b\x0a" + "rcmd\x00host.mit\x00"
	big := "\x00alice\x00admin\x00ATHENA\x00" + "\x01\x02\x03\x04" + "\x02\x00\x00\x00\x05\x06\x07\x08" + "\x09" + "\x0a\x0b\x0c\x0d" + "rcmd\x00host.mit\x00"
	tests := []struct {
		x    api.Ticket
		want string
	}{
		{good(), little + "\x00\x00\x00\x00\x00"},
		{with(func(x *api.Ticket) { x.Little = false }), big + "\x00\x00\x00\x00\x00"},
		{least(true), "\x01a\x00\x00R\x00" + "\x00\x00\x00\x00" + "\x02\x00\x00\x00\x00\x00\x00\x01" + "\x00" + "\x00\x00\x00\x00" + "s\x00\x00" + "\x00\x00\x00\x00\x00\x00"},
		{
			api.Ticket{Client: api.Principal{Name: "a", Instance: "b", Realm: "c"}, Address: 1<<32 - 1, Session: sample.Session + 0xffff_ffff, Life: 255, Issued: 1<<32 - 1, Service: "s"},
			"\x00a\x00b\x00c\x00" + "\xff\xff\xff\xff" + "\x02\x00\x00\x00\xff\xff\xff\xff" + "\xff" + "\xff\xff\xff\xff" + "s\x00\x00" + "\x00\x00\x00\x00\x00",
		},
	}
	for _, x := range tests {
		if b, e := ticket.Encode(x.x); string(b) != x.want || e != api.OK {
			t.Errorf("Encode(%+v) = %q, %d, want %q", x.x, b, e, x.want)
		}
		if y, e := ticket.Decode([]byte(x.want)); y != x.x || e != api.OK {
			t.Errorf("Decode(%q) = %+v, %d, want %+v", x.want, y, e, x.x)
		}
	}
}

// P6.2: the example of chapter 6 has 27 bytes and is padded to 32.
func TestEncodeExample(t *testing.T) {
	x := api.Ticket{Client: api.Principal{Name: "a", Instance: "b", Realm: "c"}, Session: sample.Session + 1, Service: "s"}
	if n := len(join(x)); n != 27 {
		t.Errorf("the example has %d bytes without padding", n)
	}
	if b, e := ticket.Encode(x); len(b) != 32 || e != api.OK {
		t.Errorf("Encode of the example = %q, %d", b, e)
	}
}

// P6.2, P6.5: the edges of all fields, in both byte orders, are encoded as they should be and decoded as they were.
func TestEncodeDecode(t *testing.T) {
	paddings := map[int]bool{}
	for _, x := range tickets() {
		accepted(t, x)
		b := sample.Pad(join(x))
		if y, e := ticket.Decode(b); y != x || e != api.OK {
			t.Errorf("Decode(%q) = %+v, %d, want %+v", b, y, e, x)
		}
		if e := decode(t, b); e != api.OK {
			t.Errorf("decodeByHand(%q) returns %d", b, e)
		}
		paddings[len(b)-len(join(x))] = true
	}
	if len(paddings) != 8 {
		t.Errorf("the tickets have the paddings %v only", paddings)
	}
}

// P6.2: no bytes are no ticket, and a first byte that is neither 0 nor 1 comes before all other errors.
func TestDecodeFirst(t *testing.T) {
	for _, none := range [][]byte{nil, {}, make([]byte, 0, 40)} {
		syntax(t, none)
	}
	rests := [][]byte{nil, {0}, make([]byte, 7), make([]byte, 31), []byte("not a ticket"), sample.Pad(join(good()))[1:], sample.Pad(join(greatest(false)))[1:], join(good())[1:], make([]byte, 2000)}
	for c := 2; c < 256; c++ {
		for _, rest := range rests {
			if e := decode(t, slices.Concat([]byte{byte(c)}, rest)); e != api.ErrByteOrder {
				t.Errorf("decodeByHand with the first byte %d returns %d", c, e)
			}
		}
	}
	for c := range 2 {
		for n := range 64 {
			syntax(t, append([]byte{byte(c)}, make([]byte, n)...))
		}
		syntax(t, append([]byte{byte(c)}, "not a ticket at all, but as long as one"...))
		syntax(t, append([]byte{byte(c)}, make([]byte, 2000)...))
	}
}

// P6.2: the first byte says how the numbers are read.
func TestDecodeByteOrder(t *testing.T) {
	for _, x := range tickets() {
		b := sample.Pad(join(x))
		b[0] = 1 - b[0]
		want := x
		want.Little = !x.Little
		want.Address = int(bits.ReverseBytes32(uint32(x.Address)))
		want.Issued = int(bits.ReverseBytes32(uint32(x.Issued)))
		if y, e := ticket.Decode(b); y != want || e != api.OK {
			t.Errorf("Decode(%q) = %+v, %d, want %+v", b, y, e, want)
		}
	}
}

// samples are tickets with all lengths of padding, in both byte orders.
func samples() []api.Ticket {
	var l []api.Ticket
	for n := 1; n <= 8; n++ {
		l = append(l, with(func(x *api.Ticket) { x.Client.Name, x.Little = sample.Name(n), n%2 == 0 }))
		l = append(l, with(func(x *api.Ticket) { x.Instance, x.Little = sample.Name(n-1), n%2 == 1 }))
	}
	return append(l, least(true), least(false), greatest(true), greatest(false))
}

// P6.2: nothing that is shorter than an encoding is one, with or without the bytes behind the end of the slice.
func TestDecodeCutShort(t *testing.T) {
	for _, x := range samples() {
		b := sample.Pad(join(x))
		for n := range b {
			syntax(t, b[:n])
			syntax(t, b[:n:n])
		}
	}
}

// P6.2: an encoding that is cut short and padded again is none, unless it is only the padding that is missing.
func TestDecodeCutAndPadded(t *testing.T) {
	for _, x := range samples() {
		b := sample.Pad(join(x))
		for _, part := range sample.Cut(b) {
			decode(t, sample.Pad(part))
			decode(t, slices.Concat(part, make([]byte, len(b)-len(part))))
		}
	}
}

// P6.2: nothing follows an encoding, not even zero bytes.
func TestDecodeTrailing(t *testing.T) {
	for _, x := range samples() {
		b := sample.Pad(join(x))
		for _, longer := range sample.Trailed(b) {
			syntax(t, longer)
		}
		syntax(t, slices.Concat([]byte{0}, b))
	}
}

// P6.2: the padding has the right length, and all its bytes are zero.
func TestDecodePadding(t *testing.T) {
	for _, x := range samples() {
		for _, wrong := range sample.WronglyPadded(join(x)) {
			syntax(t, wrong)
		}
	}
}

// P6.2: an encoding in which one byte was changed, to every other value.
func TestDecodeChanged(t *testing.T) {
	for _, x := range samples() {
		b := sample.Pad(join(x))
		for i := range b {
			for _, other := range sample.Changed(b, i) {
				decode(t, other)
				if y, e := ticket.Decode(other); e == api.OK && y == x {
					t.Errorf("Decode(%q) is the ticket of another encoding", other)
				}
			}
		}
	}
}

// P6.2: an encoding without one of its bytes, and with one more, padded anew.
func TestDecodeShifted(t *testing.T) {
	for _, x := range samples() {
		for _, other := range sample.Shifted(join(x)) {
			decode(t, sample.Pad(other))
		}
	}
}

// P6.2: what would be the encoding of a ticket with an error is none.
func TestDecodeErrors(t *testing.T) {
	for i := range 5 {
		for _, s := range sample.NoNames() {
			x := good()
			texts, _ := nameFields(&x)
			*texts[i] = s
			if checkByHand(x) != api.OK {
				syntax(t, sample.Pad(join(x)))
			}
		}
	}
	for _, little := range []bool{false, true} {
		for _, k := range badSessions() {
			syntax(t, sample.Pad(join(with(func(x *api.Ticket) { x.Session, x.Little = k, little }))))
		}
		// A key has the same bytes in both byte orders.
		x := with(func(x *api.Ticket) { x.Session, x.Little = 0x0807060500000002, little })
		syntax(t, sample.Pad(join(x)))
	}
}

// P6.3, P6.5: what was sealed is opened as it was, with the keys of both classes.
func TestSealOpen(t *testing.T) {
	for _, x := range tickets() {
		for _, k := range sample.Keys() {
			b, e := ticket.Seal(x, k)
			if want := sample.Box(api.BoxTicket, k, sample.Pad(join(x))); !bytes.Equal(b, want) || e != api.OK {
				t.Errorf("Seal(%+v, %#x) = %q, %d, want %q", x, uint64(k), b, e, want)
			}
			if y, e := ticket.Open(b, k); y != x || e != api.OK {
				t.Errorf("Open(%q, %#x) = %+v, %d, want %+v", b, uint64(k), y, e, x)
			}
		}
	}
}

// P6.3: a sealed ticket is written out.
func TestSealBytes(t *testing.T) {
	want := "\x42\x01\x01\x00\x00\x00\x00\x00\x00\x07\x00\x20" + "\x01a\x00\x00R\x00" + "\x00\x00\x00\x00" + "\x02\x00\x00\x00\x00\x00\x00\x01" + "\x00" + "\x00\x00\x00\x00" + "s\x00\x00" + "\x00\x00\x00\x00\x00\x00"
	if b, e := ticket.Seal(least(true), sample.LongTerm+7); string(b) != want || e != api.OK {
		t.Errorf("Seal = %q, %d, want %q", b, e, want)
	}
	if x, e := ticket.Open([]byte(want), sample.LongTerm+7); x != least(true) || e != api.OK {
		t.Errorf("Open = %+v, %d", x, e)
	}
}

// P6.3: a key that is not valid; an error of the ticket comes before it (function refused tries this).
func TestSealErrors(t *testing.T) {
	for _, x := range []api.Ticket{good(), least(false), greatest(true)} {
		for _, k := range sample.NoKeys() {
			if b, e := ticket.Seal(x, k); len(b) != 0 || e != api.ErrNullKey {
				t.Errorf("Seal(%+v, %#x) = %q, %d", x, uint64(k), b, e)
			}
		}
	}
	refused(t, with(func(x *api.Ticket) { x.Life = -1 }), api.ErrRange)
	refused(t, with(func(x *api.Ticket) { x.Instance = "@" }), api.ErrName)
}

// closed says that Open must return ErrUndec.
func closed(t *testing.T, b []byte, k api.Key) {
	t.Helper()
	if x, e := ticket.Open(b, k); x != (api.Ticket{}) || e != api.ErrUndec {
		t.Errorf("Open(%q, %#x) = %+v, %d, want ErrUndec", b, uint64(k), x, e)
	}
}

// P6.3, P6.5: a box is not opened with another key, valid or not.
func TestOpenKeys(t *testing.T) {
	for _, x := range samples() {
		for _, k := range sample.Keys() {
			b := sample.Box(api.BoxTicket, k, sample.Pad(join(x)))
			for _, other := range sample.OtherKeys(k) {
				closed(t, b, other)
			}
			if x.Session != k {
				closed(t, b, x.Session)
			}
		}
	}
}

// P6.3: a box of another kind, a text that is not exactly a box, and a box whose key is not valid.
func TestOpenBoxes(t *testing.T) {
	k := sample.LongTerm + 77
	body := sample.Pad(join(good()))
	for _, b := range sample.NoBoxes(api.BoxTicket, k, body) {
		closed(t, b, k)
		closed(t, b, 0)
	}
	for _, bad := range sample.NoKeys() {
		closed(t, sample.Box(api.BoxTicket, bad, body), bad)
	}
}

// P6.3: a body that is no ticket gives the error of Decode, but only if the box is opened.
func TestOpenBodies(t *testing.T) {
	k := sample.LongTerm + 77
	whole := sample.Pad(join(good()))
	bodies := []struct {
		body []byte
		want api.Errno
	}{
		{nil, api.ErrSyntax},
		{[]byte{0}, api.ErrSyntax},
		{[]byte{1}, api.ErrSyntax},
		{[]byte{2}, api.ErrByteOrder},
		{[]byte{255}, api.ErrByteOrder},
		{slices.Concat([]byte{2}, whole[1:]), api.ErrByteOrder},
		{whole[:len(whole)-1], api.ErrSyntax},
		{whole[:len(whole)-8], api.ErrSyntax},
		{slices.Concat(whole, []byte{0}), api.ErrSyntax},
		{slices.Concat(whole, make([]byte, 8)), api.ErrSyntax},
		{make([]byte, 32), api.ErrSyntax},
		{make([]byte, api.MaxBody), api.ErrSyntax},
		{bytes.Repeat([]byte{66}, api.MaxBody), api.ErrByteOrder},
		{slices.Concat(whole, make([]byte, api.MaxBody-len(whole))), api.ErrSyntax},
		{sample.Box(api.BoxTicket, k, whole), api.ErrByteOrder},
	}
	for _, x := range bodies {
		b := sample.Box(api.BoxTicket, k, x.body)
		if y, e := ticket.Open(b, k); y != (api.Ticket{}) || e != x.want {
			t.Errorf("Open of a box with %q = %+v, %d, want %d", x.body, y, e, x.want)
		}
		closed(t, b, k+1)
		closed(t, b, 0)
		closed(t, slices.Concat(b, []byte{0}), k)
		closed(t, sample.Box(api.BoxAuth, k, x.body), k)
	}
}

// P6.4: For takes all tickets and all realms, valid or not, and looks at nothing but the service.
func TestFor(t *testing.T) {
	tests := []struct {
		x     api.Ticket
		realm string
		want  api.Principal
	}{
		{good(), "ATHENA", api.Principal{Name: "rcmd", Instance: "host.mit", Realm: "ATHENA"}},
		{good(), "LCS.MIT", api.Principal{Name: "rcmd", Instance: "host.mit", Realm: "LCS.MIT"}},
		{good(), "", api.Principal{Name: "rcmd", Instance: "host.mit"}},
		{good(), "@ \x00", api.Principal{Name: "rcmd", Instance: "host.mit", Realm: "@ \x00"}},
		{least(true), "R", api.Principal{Name: "s", Realm: "R"}},
		{api.Ticket{}, "", api.Principal{}},
		{api.Ticket{}, "R", api.Principal{Realm: "R"}},
		{api.Ticket{Service: "a.b", Instance: "@"}, sample.Name(80), api.Principal{Name: "a.b", Instance: "@", Realm: sample.Name(80)}},
		{api.Ticket{Client: api.Principal{Name: "c", Instance: "d", Realm: "E"}, Address: -1, Session: 1, Life: -1, Issued: -1}, "R", api.Principal{Realm: "R"}},
	}
	for _, x := range tests {
		if p := ticket.For(x.x, x.realm); p != x.want {
			t.Errorf("For(%+v, %q) = %+v, want %+v", x.x, x.realm, p, x.want)
		}
	}
}

// P6.5: a sealed ticket has at most api.MaxTicket bytes.
func TestSealedLength(t *testing.T) {
	for _, x := range tickets() {
		if b, e := ticket.Seal(x, sample.LongTerm+1); len(b) > api.MaxTicket || len(b) == 0 || e != api.OK {
			t.Errorf("Seal(%+v) has %d bytes, %d", x, len(b), e)
		}
	}
	if b, _ := ticket.Seal(greatest(true), sample.LongTerm+1); len(b) != 12+224 {
		t.Errorf("the longest sealed ticket has %d bytes", len(b))
	}
}

// P6.5: different tickets have different encodings.
func TestEncodingsDiffer(t *testing.T) {
	seen := map[string]api.Ticket{}
	for _, x := range append(tickets(), samples()...) {
		b, _ := ticket.Encode(x)
		if y, found := seen[string(b)]; found && x != y {
			t.Errorf("%+v and %+v have the encoding %q", x, y, b)
		}
		seen[string(b)] = x
	}
}

// randomTicket returns a ticket that has an error about half of the time.
func randomTicket(r *rand.Rand) api.Ticket {
	x := api.Ticket{
		Little:   r.Intn(2) == 0,
		Client:   api.Principal{Name: sample.Text(r.Intn), Instance: sample.Text(r.Intn), Realm: sample.Text(r.Intn)},
		Address:  sample.Number(r.Intn, 1<<32-1),
		Session:  sample.Session + 1 + api.Key(r.Intn(1<<32-1)),
		Life:     sample.Number(r.Intn, 255),
		Issued:   sample.Number(r.Intn, 1<<32-1),
		Service:  sample.Text(r.Intn),
		Instance: sample.Text(r.Intn),
	}
	if r.Intn(10) == 0 {
		x.Session = badSessions()[r.Intn(len(badSessions()))]
	}
	return x
}

// P6.1 to P6.3, P6.5: tickets of all sorts.
func TestRandomTickets(t *testing.T) {
	r := rand.New(rand.NewSource(6))
	seen := map[api.Errno]int{}
	for range 20000 {
		x := randomTicket(r)
		want := checkByHand(x)
		seen[want]++
		if want != api.OK {
			refused(t, x, want)
			continue
		}
		accepted(t, x)
		b, e := ticket.Seal(x, sample.LongTerm+77)
		if y, e2 := ticket.Open(b, sample.LongTerm+77); y != x || e != api.OK || e2 != api.OK {
			t.Errorf("Open(Seal(%+v)) = %+v, %d, %d", x, y, e, e2)
		}
	}
	for _, e := range []api.Errno{api.OK, api.ErrName, api.ErrNullKey, api.ErrRange} {
		if seen[e] < 100 {
			t.Errorf("only %d tickets with the error %d", seen[e], e)
		}
	}
}

// G1, P6.2, P6.3: texts of all sorts, made of random bytes and of what encodings are made of.
func TestRandomTexts(t *testing.T) {
	r := rand.New(rand.NewSource(7))
	alphabet := []byte{0, 0, 0, 0, 1, 2, 'a', 'b', '.', '@', 66, 255}
	for range 20000 {
		b := make([]byte, r.Intn(80))
		for i := range b {
			b[i] = alphabet[r.Intn(len(alphabet))]
			if r.Intn(10) == 0 {
				b[i] = byte(r.Intn(256))
			}
		}
		if len(b) > 0 && r.Intn(4) > 0 {
			b[0] = byte(r.Intn(2))
		}
		decode(t, b)
		for _, k := range []api.Key{0, sample.LongTerm + 1, api.Key(r.Uint64())} {
			closed(t, b, k)
		}
	}
}

// P6.2: encodings in which several bytes were changed.
func TestRandomChanges(t *testing.T) {
	r := rand.New(rand.NewSource(8))
	l := samples()
	for range 20000 {
		b := sample.Pad(join(l[r.Intn(len(l))]))
		for range 1 + r.Intn(3) {
			b[r.Intn(len(b))] = byte(r.Intn(256))
		}
		decode(t, b)
	}
}

// G2: Decode and Open change no argument, nor what is behind it, and do not read what is behind it.
func TestArguments(t *testing.T) {
	k := sample.LongTerm + 77
	for _, x := range samples() {
		body := sample.Pad(join(x))
		for _, b := range [][]byte{body, body[:len(body)-1], slices.Concat(body, []byte{1}), sample.Box(api.BoxTicket, k, body), sample.Box(api.BoxTicket, k, nil), nil, {2}} {
			part := sample.Framed(b)
			store := part[:cap(part)]
			before := slices.Clone(store)
			y, e := ticket.Decode(part)
			z, e2 := ticket.Open(part, k)
			if !bytes.Equal(store, before) {
				t.Errorf("Decode or Open has changed %q to %q", before, store)
			}
			if y2, e3 := ticket.Decode(slices.Clip(slices.Clone(b))); y2 != y || e3 != e {
				t.Errorf("Decode(%q) depends on what is behind it", b)
			}
			if z2, e3 := ticket.Open(slices.Clip(slices.Clone(b)), k); z2 != z || e3 != e2 {
				t.Errorf("Open(%q) depends on what is behind it", b)
			}
		}
	}
}

// LANGUAGE.md, rule 7: a result shares no memory with an argument, nor with another result.
func TestNewMemory(t *testing.T) {
	for _, x := range samples() {
		results := []func() []byte{
			func() []byte { b, _ := ticket.Encode(x); return b },
			func() []byte { b, _ := ticket.Seal(x, sample.LongTerm+77); return b },
		}
		for _, result := range results {
			a, b := result(), result()
			want := slices.Clone(b)
			clear(a[:cap(a)])
			if !bytes.Equal(b, want) || !bytes.Equal(result(), want) {
				t.Errorf("the results for %+v share memory", x)
			}
		}
		b := sample.Pad(join(x))
		sealed := sample.Box(api.BoxTicket, sample.LongTerm+77, b)
		y, _ := ticket.Decode(b)
		z, _ := ticket.Open(sealed, sample.LongTerm+77)
		clear(b)
		clear(sealed)
		if y != x || z != x {
			t.Errorf("%+v and %+v share memory with the texts that they were read from", y, z)
		}
	}
}

// G2: the same arguments give the same results, in whatever order and however often the functions are called.
func TestSameResults(t *testing.T) {
	first := map[int][]byte{}
	keys := sample.Keys()
	for range 3 {
		for i, x := range tickets() {
			b, e := ticket.Seal(x, keys[i%len(keys)])
			if e != api.OK || first[i] != nil && !bytes.Equal(b, first[i]) {
				t.Errorf("Seal(%+v) = %q, %d, and before %q", x, b, e, first[i])
			}
			first[i] = b
			ticket.Decode(b)
			ticket.Check(api.Ticket{})
		}
	}
}
