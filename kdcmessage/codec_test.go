package kdcmessage_test

import (
	"bytes"
	"encoding/binary"
	"math/rand"
	"reflect"
	"slices"
	"testing"

	"kerbsuite/api"
	"kerbsuite/sample"
)

// orders are the byte orders: little says which.
var orders = []bool{false, true}

// order returns how numbers are written.
func order(little bool) interface {
	binary.ByteOrder
	binary.AppendByteOrder
} {
	if little {
		return binary.LittleEndian
	}
	return binary.BigEndian
}

// codec is a pair of functions that encode and decode values, with what they should do, written apart from the package.
type codec[T any] struct {
	encode func(v T) ([]byte, api.Errno)
	decode func(b []byte) (T, api.Errno)
	// check returns the first error of v, join what its fields should be, whether v has an error or not, and finish what
	// follows them.
	check  func(v T) api.Errno
	join   func(v T) []byte
	finish func(b []byte) []byte
	// read reads the fields; it need not look at what is in front of them or behind them, nor for errors.
	read func(r *reader) T
	// open looks at what is in front of the fields, and returns their reader.
	open func(b []byte) (*reader, api.Errno)
	// good returns a value without an error in which no two fields are alike, and least and greatest return the shortest
	// one with the least and the longest one with the greatest numbers.
	good, least, greatest func() T
	// inOrder returns v in this byte order; that of a part is not in its value.
	inOrder func(v T, little bool) T
	texts   []textField[T]
	numbers []numberField[T]
	// boxed is the text of bytes in v, nil if there is none, and maxBoxed is how many it has at most.
	boxed    func(v *T) *[]byte
	maxBoxed int
	// more are further values without an error, and faults errors, in the order of the errors.
	more   []func(v *T)
	faults []fault[T]
	random func(r *rand.Rand) T
}

// textField is a name, an instance or a realm of a value.
type textField[T any] struct {
	least     int    // how many bytes it has at least
	forbidden string // what it does not contain, of what can be seen
	of        func(v *T) *string
}

// numberField is a number of a value, which is from 0 to last.
type numberField[T any] struct {
	last int
	of   func(v *T) *int
}

// fault is a change that gives a value an error.
type fault[T any] struct {
	e      api.Errno
	change func(v *T)
}

// written is a value with its encoding, written out.
type written[T any] struct {
	v    T
	want string
}

// principalFields are the texts of a principal.
func principalFields[T any](of func(v *T) *api.Principal) []textField[T] {
	return []textField[T]{
		{1, ".@", func(v *T) *string { return &of(v).Name }},
		{0, "@", func(v *T) *string { return &of(v).Instance }},
		{1, "@", func(v *T) *string { return &of(v).Realm }},
	}
}

// encoding returns what should be the encoding of v, whether v has an error or not.
func (c codec[T]) encoding(v T) []byte {
	return c.finish(c.join(v))
}

// with returns the value good after a change.
func (c codec[T]) with(change func(v *T)) T {
	v := c.good()
	change(&v)
	return v
}

// plain returns v with a nil text of bytes in place of an empty one.
func (c codec[T]) plain(v T) T {
	if c.boxed != nil && len(*c.boxed(&v)) == 0 {
		*c.boxed(&v) = nil
	}
	return v
}

// same reports whether v and w are the same value.
func (c codec[T]) same(v, w T) bool {
	return reflect.DeepEqual(c.plain(v), c.plain(w))
}

// decodeByHand returns the value whose encoding is b, reading it from the front to the back.
func (c codec[T]) decodeByHand(b []byte) (T, api.Errno) {
	var none T
	r, e := c.open(b)
	if e != api.OK {
		return none, e
	}
	v := c.read(r)
	if r.failed || c.check(v) != api.OK || !r.ends(b, c.finish) {
		return none, api.ErrSyntax
	}
	return v, api.OK
}

// try compares decode of b with decodeByHand, and returns the error.
func (c codec[T]) try(t *testing.T, b []byte) api.Errno {
	t.Helper()
	want, wantError := c.decodeByHand(b)
	if v, e := c.decode(b); !c.same(v, want) || e != wantError {
		t.Errorf("decode(%q) = %#v, %d, want %#v, %d", b, v, e, want, wantError)
	}
	return wantError
}

// fails says that b is no encoding, and that this is the error.
func (c codec[T]) fails(t *testing.T, b []byte, want api.Errno) {
	t.Helper()
	var none T
	if v, e := c.decode(b); !c.same(v, none) || e != want {
		t.Errorf("decode(%q) = %#v, %d, want %d", b, v, e, want)
	}
	if _, e := c.decodeByHand(b); e != want {
		t.Errorf("decodeByHand(%q) has the error %d, want %d", b, e, want)
	}
}

// accepted says that v has no error, and that its encoding is decoded as it was.
func (c codec[T]) accepted(t *testing.T, v T) {
	t.Helper()
	b, e := c.encode(v)
	if want := c.encoding(v); !bytes.Equal(b, want) || e != api.OK {
		t.Errorf("encode(%#v) = %q, %d, want %q", v, b, e, want)
		return
	}
	if w, e := c.decode(b); !c.same(v, w) || e != api.OK {
		t.Errorf("decode(%q) = %#v, %d, want %#v", b, w, e, v)
	}
	if w, e := c.decodeByHand(b); !c.same(v, w) || e != api.OK {
		t.Errorf("decodeByHand(%q) = %#v, %d, want %#v", b, w, e, v)
	}
}

// acceptedAs says that each of these values has the encoding that is written out.
func (c codec[T]) acceptedAs(t *testing.T, l []written[T]) {
	t.Helper()
	for _, x := range l {
		if b, e := c.encode(x.v); string(b) != x.want || e != api.OK {
			t.Errorf("encode(%#v) = %q, %d, want %q", x.v, b, e, x.want)
		}
		if v, e := c.decode([]byte(x.want)); !c.same(v, x.v) || e != api.OK {
			t.Errorf("decode(%q) = %#v, %d, want %#v", x.want, v, e, x.v)
		}
	}
}

// refused says that v has this error in both byte orders.
func (c codec[T]) refused(t *testing.T, v T, want api.Errno) {
	t.Helper()
	for _, little := range orders {
		w := c.inOrder(v, little)
		if b, e := c.encode(w); len(b) != 0 || e != want {
			t.Errorf("encode(%#v) = %q, %d, want %d", w, b, e, want)
		}
		if e := c.check(w); e != want {
			t.Errorf("check(%#v) = %d, want %d", w, e, want)
		}
	}
}

// refusedIf says that v has this error if bad is true, and none otherwise, in both byte orders.
func (c codec[T]) refusedIf(t *testing.T, bad bool, v T, want api.Errno) {
	t.Helper()
	if bad {
		c.refused(t, v, want)
		return
	}
	for _, little := range orders {
		c.accepted(t, c.inOrder(v, little))
	}
}

// values returns values without an error: the edges of all fields, in both byte orders.
func (c codec[T]) values() []T {
	l := []T{c.good(), c.least(), c.greatest()}
	add := func(change func(v *T)) { l = append(l, c.with(change)) }
	for _, f := range c.texts {
		for n := f.least; n <= 39; n++ {
			add(func(v *T) { *f.of(v) = sample.Name(n) })
		}
	}
	for _, f := range c.numbers {
		for _, n := range sample.Inside(f.last) {
			add(func(v *T) { *f.of(v) = n })
		}
		for _, n := range sample.Numbers() {
			add(func(v *T) { *f.of(v) = min(n, f.last) })
		}
	}
	for _, change := range c.more {
		add(change)
	}
	if c.boxed != nil {
		for _, n := range []int{0, 1, 2, 7, 8, 100, 127, 128, c.maxBoxed - 1, c.maxBoxed} {
			add(func(v *T) { *c.boxed(v) = noise(n) })
			add(func(v *T) { *c.boxed(v) = make([]byte, n) })
			add(func(v *T) { *c.boxed(v) = bytes.Repeat([]byte{255}, n) })
		}
	}
	return c.inBoth(l)
}

// inBoth returns the values in both byte orders.
func (c codec[T]) inBoth(l []T) []T {
	var both []T
	for _, v := range l {
		for _, little := range orders {
			both = append(both, c.inOrder(v, little))
		}
	}
	return both
}

// samples returns a few short values, in both byte orders, with all lengths of a padding.
func (c codec[T]) samples() []T {
	l := []T{c.good(), c.least()}
	for n := 1; n <= 8; n++ {
		l = append(l, c.with(func(v *T) { *c.texts[0].of(v) = sample.Name(n) }))
	}
	return c.inBoth(l)
}

// noise returns n bytes that look neither like names nor like numbers.
func noise(n int) []byte {
	b := make([]byte, n)
	for i := range b {
		b[i] = byte(i*i + 77*i + 200)
	}
	return b
}

// reader reads the fields of a text of bytes from the front to the back.
type reader struct {
	rest   []byte
	little bool
	failed bool // a field was not complete
}

// take returns the next n bytes.
func (r *reader) take(n int) []byte {
	if len(r.rest) < n {
		r.failed = true
		return make([]byte, n)
	}
	b := r.rest[:n]
	r.rest = r.rest[n:]
	return slices.Clone(b)
}

func (r *reader) octet() int {
	return int(r.take(1)[0])
}

func (r *reader) short() int {
	return int(order(r.little).Uint16(r.take(2)))
}

func (r *reader) number() int {
	return int(order(r.little).Uint32(r.take(4)))
}

func (r *reader) key() api.Key {
	return api.Key(binary.BigEndian.Uint64(r.take(8)))
}

// text returns the bytes in front of the next zero byte, however many they are.
func (r *reader) text() string {
	s, rest, found := bytes.Cut(r.rest, []byte{0})
	r.failed = r.failed || !found
	r.rest = rest
	return string(s)
}

func (r *reader) principal() api.Principal {
	return api.Principal{Name: r.text(), Instance: r.text(), Realm: r.text()}
}

// ends reports whether behind the fields of b there is exactly what should follow them.
func (r *reader) ends(b []byte, finish func(b []byte) []byte) bool {
	return bytes.Equal(finish(b[:len(b)-len(r.rest)]), b)
}

// putPrincipal appends the three texts of p.
func putPrincipal(b []byte, p api.Principal) []byte {
	return append(b, p.Name+"\x00"+p.Instance+"\x00"+p.Realm+"\x00"...)
}

// openMessage returns how the messages of a type begin, in the byte order that the second byte names.
func openMessage(kind byte) func(b []byte) (*reader, api.Errno) {
	return func(b []byte) (*reader, api.Errno) {
		switch {
		case len(b) < 2:
			return nil, api.ErrTruncated
		case b[0] != 4:
			return nil, api.ErrVersion
		case b[1] != 2*kind && b[1] != 2*kind+1:
			return nil, api.ErrMsgType
		}
		return &reader{rest: b[2:], little: b[1] == 2*kind+1}, api.OK
	}
}

// putHeader returns the header of a message.
func putHeader(kind byte, little bool) []byte {
	if little {
		return []byte{4, 2*kind + 1}
	}
	return []byte{4, 2 * kind}
}

// sameBytes is what follows the fields of a message: nothing.
func sameBytes(b []byte) []byte { return b }

// randomPrincipal returns a principal that is often valid.
func randomPrincipal(r *rand.Rand) api.Principal {
	return api.Principal{Name: sample.Text(r.Intn), Instance: sample.Text(r.Intn), Realm: sample.Text(r.Intn)}
}

// randomBytes returns at most last bytes, mostly, that are like those of encodings.
func randomBytes(r *rand.Rand, last int) []byte {
	b := make([]byte, r.Intn(30))
	if r.Intn(6) == 0 {
		b = make([]byte, last-3+r.Intn(6))
	}
	alphabet := []byte{0, 0, 0, 0, 1, 2, 4, 'a', 'b', '.', '@', 66, 255}
	for i := range b {
		b[i] = alphabet[r.Intn(len(alphabet))]
		if r.Intn(10) == 0 {
			b[i] = byte(r.Intn(256))
		}
	}
	return b
}
