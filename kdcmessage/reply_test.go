package kdcmessage_test

import (
	"encoding/binary"
	"math/rand"
	"slices"
	"testing"

	"kerbsuite/api"
	"kerbsuite/kdcmessage"
	"kerbsuite/sample"
)

func goodReply() api.KdcReply {
	return api.KdcReply{
		Little:  true,
		Client:  api.Principal{Name: "alice", Instance: "admin", Realm: "ATHENA"},
		Time:    0x0a0b0c0d,
		Expires: 0x11121314,
		Kvno:    3,
		Sealed:  []byte("what is sealed"),
	}
}

func leastReply() api.KdcReply {
	return api.KdcReply{Client: api.Principal{Name: "a", Realm: "R"}}
}

func greatestReply() api.KdcReply {
	n := sample.Name(39)
	return api.KdcReply{Little: true, Client: api.Principal{Name: n, Instance: n, Realm: n}, Time: 1<<32 - 1, Expires: 1<<32 - 1, Kvno: 255, Sealed: noise(1012)}
}

// checkReply checks a reply as P9.3 says.
func checkReply(r api.KdcReply) api.Errno {
	if !sample.IsPrincipal(r.Client) {
		return api.ErrName
	}
	if r.Time < 0 || r.Time > 1<<32-1 || r.Expires < 0 || r.Expires > 1<<32-1 || r.Kvno < 0 || r.Kvno > 255 {
		return api.ErrRange
	}
	if len(r.Sealed) > 1012 {
		return api.ErrTooLong
	}
	return api.OK
}

// joinReply returns the bytes of r as P9.3 says.
func joinReply(r api.KdcReply) []byte {
	b := putPrincipal(putHeader(2, r.Little), r.Client)
	b = order(r.Little).AppendUint32(b, uint32(r.Time))
	b = append(b, 1)
	b = order(r.Little).AppendUint32(b, uint32(r.Expires))
	b = append(b, byte(r.Kvno))
	b = order(r.Little).AppendUint16(b, uint16(len(r.Sealed)))
	return append(b, r.Sealed...)
}

// readReply reads the bytes of a reply as P9.3 says.
func readReply(r *reader) api.KdcReply {
	x := api.KdcReply{Little: r.little, Client: r.principal(), Time: r.number()}
	r.failed = r.octet() != 1 || r.failed
	x.Expires, x.Kvno = r.number(), r.octet()
	x.Sealed = r.take(r.short())
	return x
}

func randomReply(r *rand.Rand) api.KdcReply {
	return api.KdcReply{
		Client:  randomPrincipal(r),
		Time:    sample.Number(r.Intn, 1<<32-1),
		Expires: sample.Number(r.Intn, 1<<32-1),
		Kvno:    sample.Number(r.Intn, 255),
		Sealed:  randomBytes(r, 1012),
	}
}

var replies = codec[api.KdcReply]{
	encode:   kdcmessage.EncodeReply,
	decode:   kdcmessage.DecodeReply,
	check:    checkReply,
	join:     joinReply,
	finish:   sameBytes,
	read:     readReply,
	open:     openMessage(2),
	good:     goodReply,
	least:    leastReply,
	greatest: greatestReply,
	inOrder:  func(r api.KdcReply, little bool) api.KdcReply { r.Little = little; return r },
	texts:    principalFields(func(r *api.KdcReply) *api.Principal { return &r.Client }),
	numbers: []numberField[api.KdcReply]{
		{1<<32 - 1, func(r *api.KdcReply) *int { return &r.Time }},
		{1<<32 - 1, func(r *api.KdcReply) *int { return &r.Expires }},
		{255, func(r *api.KdcReply) *int { return &r.Kvno }},
	},
	boxed:    func(r *api.KdcReply) *[]byte { return &r.Sealed },
	maxBoxed: 1012,
	more: []func(r *api.KdcReply){
		func(r *api.KdcReply) { r.Client.Instance = "" },
		func(r *api.KdcReply) { r.Client.Instance, r.Client.Realm = "a.b.", "a.B" },
		func(r *api.KdcReply) { r.Sealed = sample.Box(api.BoxReply, sample.LongTerm+1, noise(1000)) },
	},
	faults: []fault[api.KdcReply]{
		{api.ErrName, func(r *api.KdcReply) { r.Client.Name = "a.b" }},
		{api.ErrName, func(r *api.KdcReply) { r.Client.Instance = sample.Name(40) }},
		{api.ErrName, func(r *api.KdcReply) { r.Client.Realm = "" }},
		{api.ErrRange, func(r *api.KdcReply) { r.Time = -1 }},
		{api.ErrRange, func(r *api.KdcReply) { r.Time = 1 << 32 }},
		{api.ErrRange, func(r *api.KdcReply) { r.Expires = -1 }},
		{api.ErrRange, func(r *api.KdcReply) { r.Expires = 1 << 32 }},
		{api.ErrRange, func(r *api.KdcReply) { r.Kvno = -1 }},
		{api.ErrRange, func(r *api.KdcReply) { r.Kvno = 256 }},
		{api.ErrTooLong, func(r *api.KdcReply) { r.Sealed = noise(1013) }},
		{api.ErrTooLong, func(r *api.KdcReply) { r.Sealed = make([]byte, 1<<16+1) }},
	},
	random: randomReply,
}

// P9.3, P9.5, G1, G2, G5.
func TestReplies(t *testing.T) {
	replies.checkAll(t)
}

// P9.3: replies that are written out.
func TestReplyBytes(t *testing.T) {
	bigGood := goodReply()
	bigGood.Little = false
	tests := []written[api.KdcReply]{
		{goodReply(), "\x04\x05" + "alice\x00admin\x00ATHENA\x00" + "\x0d\x0c\x0b\x0a" + "\x01" + "\x14\x13\x12\x11" + "\x03" + "\x0e\x00" + "what is sealed"},
		{bigGood, "\x04\x04" + "alice\x00admin\x00ATHENA\x00" + "\x0a\x0b\x0c\x0d" + "\x01" + "\x11\x12\x13\x14" + "\x03" + "\x00\x0e" + "what is sealed"},
		{leastReply(), "\x04\x04" + "a\x00\x00R\x00" + "\x00\x00\x00\x00" + "\x01" + "\x00\x00\x00\x00" + "\x00" + "\x00\x00"},
		{
			api.KdcReply{Client: api.Principal{Name: "a", Instance: "b", Realm: "c"}, Time: 1<<32 - 2, Expires: 1<<32 - 1, Kvno: 255, Sealed: make([]byte, 259)},
			"\x04\x04" + "a\x00b\x00c\x00" + "\xff\xff\xff\xfe" + "\x01" + "\xff\xff\xff\xff" + "\xff" + "\x01\x03" + string(make([]byte, 259)),
		},
	}
	replies.acceptedAs(t, tests)
}

// lengthAt returns where the length of the sealed text of r stands.
func lengthAt(r api.KdcReply) int {
	return len(joinReply(r)) - len(r.Sealed) - 2
}

// P9.3: the byte in front of Expires is 1.
func TestReplyTickets(t *testing.T) {
	for _, r := range replies.samples() {
		b := joinReply(r)
		for _, other := range sample.Changed(b, lengthAt(r)-6) {
			replies.fails(t, other, api.ErrSyntax)
		}
	}
}

// P9.3: every length of the sealed text but its own, and texts that are too long.
func TestReplyLengths(t *testing.T) {
	for _, r := range replies.inBoth([]api.KdcReply{goodReply(), leastReply()}) {
		b := joinReply(r)
		for n := range 1 << 16 {
			if n == len(r.Sealed) {
				continue
			}
			order(r.Little).PutUint16(b[lengthAt(r):], uint16(n))
			if x, e := kdcmessage.DecodeReply(b); e != api.ErrSyntax || !replies.same(x, api.KdcReply{}) {
				t.Errorf("DecodeReply(%q) = %#v, %d", b, x, e)
			}
		}
	}
	for _, n := range []int{1013, 1014, 1<<15 - 1, 1 << 15, 1<<16 - 1, 1 << 16, 1<<16 + 1, 1<<16 + 1012} {
		for _, little := range orders {
			r := replies.inOrder(goodReply(), little)
			r.Sealed = noise(n)
			replies.fails(t, joinReply(r), api.ErrSyntax)
		}
	}
}

// P9.3: a length in the other byte order is another length.
func TestReplyLengthOrder(t *testing.T) {
	for _, n := range []int{1, 2, 3, 255, 256, 257, 512, 514, 771} {
		b := slices.Concat([]byte("\x04\x05a\x00\x00R\x00"), make([]byte, 4), []byte{1}, make([]byte, 5))
		b = append(binary.BigEndian.AppendUint16(b, uint16(n)), noise(n)...)
		replies.try(t, b)
		b[1] = 4
		if e := replies.try(t, b); e != api.OK {
			t.Errorf("decodeByHand(%q) has the error %d", b, e)
		}
	}
}
