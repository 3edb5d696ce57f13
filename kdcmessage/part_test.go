package kdcmessage_test

import (
	"encoding/binary"
	"fmt"
	"math/rand"
	"slices"
	"testing"

	"kerbsuite/api"
	"kerbsuite/kdcmessage"
	"kerbsuite/sample"
)

func goodPart() api.ReplyPart {
	return api.ReplyPart{
		Session: sample.Session + 0x05060708,
		Service: api.Principal{Name: "rcmd", Instance: "host.mit", Realm: "ATHENA"},
		Life:    96,
		Kvno:    3,
		Ticket:  []byte("a sealed ticket"),
		Time:    0x0a0b0c0d,
	}
}

func leastPart() api.ReplyPart {
	return api.ReplyPart{Session: sample.LongTerm + 1, Service: api.Principal{Name: "s", Realm: "R"}}
}

func greatestPart() api.ReplyPart {
	n := sample.Name(39)
	return api.ReplyPart{
		Session: sample.Session + 0xffff_ffff,
		Service: api.Principal{Name: n, Instance: n, Realm: n},
		Life:    255,
		Kvno:    255,
		Ticket:  noise(255),
		Time:    1<<32 - 1,
	}
}

// isKey says by its bytes whether k is a valid key.
func isKey(k api.Key) bool {
	return (k>>56 == 1 || k>>56 == 2) && k<<8>>40 == 0 && uint32(k) != 0
}

// checkPart checks a part as P9.2 says.
func checkPart(p api.ReplyPart) api.Errno {
	if !isKey(p.Session) {
		return api.ErrNullKey
	}
	if !sample.IsPrincipal(p.Service) {
		return api.ErrName
	}
	if p.Life < 0 || p.Life > 255 || p.Kvno < 0 || p.Kvno > 255 || p.Time < 0 || p.Time > 1<<32-1 {
		return api.ErrRange
	}
	if len(p.Ticket) > 255 {
		return api.ErrTooLong
	}
	return api.OK
}

// joinPart returns the bytes of p as P9.2 says, without the padding.
func joinPart(p api.ReplyPart, little bool) []byte {
	b := []byte{0}
	if little {
		b[0] = 1
	}
	b = binary.BigEndian.AppendUint64(b, uint64(p.Session))
	b = putPrincipal(b, p.Service)
	b = append(b, byte(p.Life), byte(p.Kvno), byte(len(p.Ticket)))
	b = append(b, p.Ticket...)
	return order(little).AppendUint32(b, uint32(p.Time))
}

// openPart looks at the first byte of a part.
func openPart(b []byte, little bool) (*reader, api.Errno) {
	if len(b) == 0 || b[0] > 1 || (b[0] == 1) != little {
		return nil, api.ErrSyntax
	}
	return &reader{rest: b[1:], little: little}, api.OK
}

// readPart reads the bytes of a part as P9.2 says.
func readPart(r *reader) api.ReplyPart {
	p := api.ReplyPart{Session: r.key(), Service: r.principal(), Life: r.octet(), Kvno: r.octet()}
	p.Ticket = r.take(r.octet())
	p.Time = r.number()
	return p
}

// randomPart returns a part that is often valid.
func randomPart(r *rand.Rand) api.ReplyPart {
	p := api.ReplyPart{
		Session: []api.Key{sample.LongTerm, sample.Session}[r.Intn(2)] + 1 + api.Key(r.Intn(1<<32-1)),
		Service: randomPrincipal(r),
		Life:    sample.Number(r.Intn, 255),
		Kvno:    sample.Number(r.Intn, 255),
		Ticket:  randomBytes(r, 255),
		Time:    sample.Number(r.Intn, 1<<32-1),
	}
	if r.Intn(10) == 0 {
		p.Session = sample.NoKeys()[r.Intn(len(sample.NoKeys()))]
	}
	return p
}

// parts returns the codec of parts in a byte order.
func parts(little bool) codec[api.ReplyPart] {
	return codec[api.ReplyPart]{
		encode:   func(p api.ReplyPart) ([]byte, api.Errno) { return kdcmessage.EncodePart(p, little) },
		decode:   func(b []byte) (api.ReplyPart, api.Errno) { return kdcmessage.DecodePart(b, little) },
		check:    checkPart,
		join:     func(p api.ReplyPart) []byte { return joinPart(p, little) },
		finish:   sample.Pad,
		read:     readPart,
		open:     func(b []byte) (*reader, api.Errno) { return openPart(b, little) },
		good:     goodPart,
		least:    leastPart,
		greatest: greatestPart,
		inOrder:  func(p api.ReplyPart, _ bool) api.ReplyPart { return p },
		texts:    principalFields(func(p *api.ReplyPart) *api.Principal { return &p.Service }),
		numbers: []numberField[api.ReplyPart]{
			{255, func(p *api.ReplyPart) *int { return &p.Life }},
			{255, func(p *api.ReplyPart) *int { return &p.Kvno }},
			{1<<32 - 1, func(p *api.ReplyPart) *int { return &p.Time }},
		},
		boxed:    func(p *api.ReplyPart) *[]byte { return &p.Ticket },
		maxBoxed: 255,
		more: []func(p *api.ReplyPart){
			func(p *api.ReplyPart) { p.Session = sample.Session + 1 },
			func(p *api.ReplyPart) { p.Session = sample.LongTerm + 0xffff_ffff },
			func(p *api.ReplyPart) { p.Service = api.Principal{Name: "krbtgt", Instance: "LCS", Realm: "ATHENA"} },
			func(p *api.ReplyPart) { p.Service = api.Principal{Name: "!~", Instance: "a.b.", Realm: "."} },
		},
		faults: []fault[api.ReplyPart]{
			{api.ErrNullKey, func(p *api.ReplyPart) { p.Session = 0 }},
			{api.ErrNullKey, func(p *api.ReplyPart) { p.Session = sample.Session + 1<<32 }},
			{api.ErrName, func(p *api.ReplyPart) { p.Service.Name = "" }},
			{api.ErrName, func(p *api.ReplyPart) { p.Service.Instance = "@" }},
			{api.ErrName, func(p *api.ReplyPart) { p.Service.Realm = sample.Name(40) }},
			{api.ErrRange, func(p *api.ReplyPart) { p.Life = -1 }},
			{api.ErrRange, func(p *api.ReplyPart) { p.Life = 256 }},
			{api.ErrRange, func(p *api.ReplyPart) { p.Kvno = -1 }},
			{api.ErrRange, func(p *api.ReplyPart) { p.Kvno = 256 }},
			{api.ErrRange, func(p *api.ReplyPart) { p.Time = -1 }},
			{api.ErrRange, func(p *api.ReplyPart) { p.Time = 1 << 32 }},
			{api.ErrTooLong, func(p *api.ReplyPart) { p.Ticket = noise(256) }},
			{api.ErrTooLong, func(p *api.ReplyPart) { p.Ticket = make([]byte, 1<<16) }},
		},
		random: randomPart,
	}
}

// P9.2, P9.5, G1, G2, G5.
func TestParts(t *testing.T) {
	for _, little := range orders {
		t.Run(fmt.Sprintf("little=%t", little), parts(little).checkAll)
	}
}

// P9.2: parts that are written out.
func TestPartBytes(t *testing.T) {
	one := api.ReplyPart{Session: sample.LongTerm + 7, Service: api.Principal{Name: "s", Instance: "i", Realm: "R"}, Life: 255, Kvno: 254, Ticket: []byte{0, 255}, Time: 1<<32 - 2}
	parts(true).acceptedAs(t, []written[api.ReplyPart]{
		{goodPart(), "\x01" + "\x02\x00\x00\x00\x05\x06\x07\x08" + "rcmd\x00host.mit\x00ATHENA\x00" + "\x60\x03\x0f" + "a sealed ticket" + "\x0d\x0c\x0b\x0a" + "\x00\x00\x00\x00"},
		{leastPart(), "\x01" + "\x01\x00\x00\x00\x00\x00\x00\x01" + "s\x00\x00R\x00" + "\x00\x00\x00" + "\x00\x00\x00\x00" + "\x00\x00\x00"},
		{one, "\x01" + "\x01\x00\x00\x00\x00\x00\x00\x07" + "s\x00i\x00R\x00" + "\xff\xfe\x02" + "\x00\xff" + "\xfe\xff\xff\xff"},
	})
	parts(false).acceptedAs(t, []written[api.ReplyPart]{
		{goodPart(), "\x00" + "\x02\x00\x00\x00\x05\x06\x07\x08" + "rcmd\x00host.mit\x00ATHENA\x00" + "\x60\x03\x0f" + "a sealed ticket" + "\x0a\x0b\x0c\x0d" + "\x00\x00\x00\x00"},
		{leastPart(), "\x00" + "\x01\x00\x00\x00\x00\x00\x00\x01" + "s\x00\x00R\x00" + "\x00\x00\x00" + "\x00\x00\x00\x00" + "\x00\x00\x00"},
		{one, "\x00" + "\x01\x00\x00\x00\x00\x00\x00\x07" + "s\x00i\x00R\x00" + "\xff\xfe\x02" + "\x00\xff" + "\xff\xff\xff\xfe"},
	})
}

// P9.2: a session may be any valid key, and nothing else.
func TestPartSessions(t *testing.T) {
	for _, little := range orders {
		c := parts(little)
		for _, k := range sample.Keys() {
			c.accepted(t, c.with(func(p *api.ReplyPart) { p.Session = k }))
		}
		for _, k := range sample.NoKeys() {
			p := c.with(func(p *api.ReplyPart) { p.Session = k })
			c.refused(t, p, api.ErrNullKey)
			c.fails(t, c.encoding(p), api.ErrSyntax)
		}
		// A key has the same bytes in both byte orders.
		c.fails(t, c.encoding(c.with(func(p *api.ReplyPart) { p.Session = 0x0807060500000002 })), api.ErrSyntax)
	}
}

// P9.2: no part of one byte order is one of the other, unless its first byte is changed, too.
func TestPartByteOrders(t *testing.T) {
	for _, little := range orders {
		c, other := parts(little), parts(!little)
		for _, p := range append(c.values(), c.samples()...) {
			b := c.encoding(p)
			other.fails(t, b, api.ErrSyntax)
			b[0] = 1 - b[0]
			c.fails(t, b, api.ErrSyntax)
			if e := other.try(t, b); e != api.OK {
				t.Errorf("decodeByHand(%q) has the error %d", b, e)
			}
		}
		for first := range 256 {
			c.try(t, slices.Concat([]byte{byte(first)}, c.encoding(goodPart())[1:]))
		}
	}
}

// P9.2: the padding has the right length, from 0 to 7, and all its bytes are zero.
func TestPartPadding(t *testing.T) {
	for _, little := range orders {
		c := parts(little)
		seen := map[int]bool{}
		for _, p := range append(c.samples(), c.greatest()) {
			b := c.join(p)
			seen[len(sample.Pad(b))-len(b)] = true
			for _, wrong := range sample.WronglyPadded(b) {
				c.fails(t, wrong, api.ErrSyntax)
			}
		}
		if len(seen) != 8 {
			t.Errorf("the samples have the paddings %v only", seen)
		}
	}
}

// P9.2: a length of the ticket that is not that of the ticket.
func TestPartTicketLengths(t *testing.T) {
	for _, little := range orders {
		c := parts(little)
		for _, n := range []int{0, 1, 15, 100, 254, 255} {
			p := c.with(func(p *api.ReplyPart) { p.Ticket = make([]byte, n) })
			b := c.encoding(p)
			at := len(b) - len(sample.Pad(c.join(p))) + len(c.join(p)) - 4 - n - 1
			for length := range 256 {
				other := slices.Clone(b)
				other[at] = byte(length)
				c.try(t, other)
			}
		}
	}
}

// P9.5: a part has at most 392 bytes.
func TestGreatestPart(t *testing.T) {
	for _, little := range orders {
		if b, e := kdcmessage.EncodePart(greatestPart(), little); len(b) != 392 || e != api.OK {
			t.Errorf("the greatest part has %d bytes, and the error %d", len(b), e)
		}
		for _, p := range parts(little).values() {
			if b, _ := kdcmessage.EncodePart(p, little); len(b) > 392 || len(b)%8 != 0 {
				t.Errorf("EncodePart(%#v) has %d bytes", p, len(b))
			}
		}
	}
}
