package kdcmessage_test

import (
	"math"
	"math/rand"
	"strings"
	"testing"

	"kerbsuite/api"
	"kerbsuite/kdcmessage"
	"kerbsuite/sample"
)

func goodError() api.ErrorReply {
	return api.ErrorReply{
		Little: true,
		Client: api.Principal{Name: "alice", Instance: "admin", Realm: "ATHENA"},
		Time:   0x0a0b0c0d,
		Code:   76,
		Text:   "no ticket, \xff@. \x01",
	}
}

func leastError() api.ErrorReply {
	return api.ErrorReply{Client: api.Principal{Name: "a", Realm: "R"}, Code: 1}
}

func greatestError() api.ErrorReply {
	n := sample.Name(39)
	return api.ErrorReply{Little: true, Client: api.Principal{Name: n, Instance: n, Realm: n}, Time: 1<<32 - 1, Code: 99, Text: strings.Repeat("\xff", 39)}
}

// checkError checks an error reply as P9.4 says.
func checkError(r api.ErrorReply) api.Errno {
	if !sample.IsPrincipal(r.Client) {
		return api.ErrName
	}
	if r.Time < 0 || r.Time > 1<<32-1 || r.Code < 1 || r.Code > 99 {
		return api.ErrRange
	}
	if len(r.Text) > 39 {
		return api.ErrTooLong
	}
	if strings.IndexByte(r.Text, 0) >= 0 {
		return api.ErrSyntax
	}
	return api.OK
}

// joinError returns the bytes of r as P9.4 says.
func joinError(r api.ErrorReply) []byte {
	b := putPrincipal(putHeader(5, r.Little), r.Client)
	b = order(r.Little).AppendUint32(b, uint32(r.Time))
	b = order(r.Little).AppendUint32(b, uint32(r.Code))
	return append(b, r.Text+"\x00"...)
}

// readError reads the bytes of an error reply as P9.4 says.
func readError(r *reader) api.ErrorReply {
	return api.ErrorReply{Little: r.little, Client: r.principal(), Time: r.number(), Code: api.Errno(r.number()), Text: r.text()}
}

func randomError(r *rand.Rand) api.ErrorReply {
	return api.ErrorReply{
		Client: randomPrincipal(r),
		Time:   sample.Number(r.Intn, 1<<32-1),
		Code:   api.Errno(sample.Number(r.Intn, 99)),
		Text:   sample.Text(r.Intn) + strings.Repeat("\x00", r.Intn(8)/7) + strings.Repeat("x", r.Intn(36)),
	}
}

var errorReplies = codec[api.ErrorReply]{
	encode:   kdcmessage.EncodeError,
	decode:   kdcmessage.DecodeError,
	check:    checkError,
	join:     joinError,
	finish:   sameBytes,
	read:     readError,
	open:     openMessage(5),
	good:     goodError,
	least:    leastError,
	greatest: greatestError,
	inOrder:  func(r api.ErrorReply, little bool) api.ErrorReply { r.Little = little; return r },
	texts:    principalFields(func(r *api.ErrorReply) *api.Principal { return &r.Client }),
	numbers:  []numberField[api.ErrorReply]{{1<<32 - 1, func(r *api.ErrorReply) *int { return &r.Time }}},
	more: []func(r *api.ErrorReply){
		func(r *api.ErrorReply) { r.Client.Instance = "" },
		func(r *api.ErrorReply) { r.Code, r.Text = api.ErrNullKey, "no key" },
		func(r *api.ErrorReply) { r.Code, r.Text = api.ErrNullKey, "" },
		func(r *api.ErrorReply) { r.Code, r.Text = api.ErrLocked, "no key" },
	},
	faults: []fault[api.ErrorReply]{
		{api.ErrName, func(r *api.ErrorReply) { r.Client.Name = "" }},
		{api.ErrName, func(r *api.ErrorReply) { r.Client.Instance = "a b" }},
		{api.ErrName, func(r *api.ErrorReply) { r.Client.Realm = sample.Name(40) }},
		{api.ErrRange, func(r *api.ErrorReply) { r.Time = -1 }},
		{api.ErrRange, func(r *api.ErrorReply) { r.Time = 1 << 32 }},
		{api.ErrRange, func(r *api.ErrorReply) { r.Code = 0 }},
		{api.ErrRange, func(r *api.ErrorReply) { r.Code = 100 }},
		{api.ErrTooLong, func(r *api.ErrorReply) { r.Text = sample.Name(40) }},
		{api.ErrTooLong, func(r *api.ErrorReply) { r.Text = strings.Repeat("\x00", 40) }},
		{api.ErrSyntax, func(r *api.ErrorReply) { r.Text = "\x00" }},
		{api.ErrSyntax, func(r *api.ErrorReply) { r.Text = sample.Name(38) + "\x00" }},
	},
	random: randomError,
}

// P9.4, P9.5, G1, G2, G5.
func TestErrorReplies(t *testing.T) {
	errorReplies.checkAll(t)
}

// P9.4: error replies that are written out.
func TestErrorBytes(t *testing.T) {
	bigGood := goodError()
	bigGood.Little = false
	tests := []written[api.ErrorReply]{
		{goodError(), "\x04\x0b" + "alice\x00admin\x00ATHENA\x00" + "\x0d\x0c\x0b\x0a" + "\x4c\x00\x00\x00" + "no ticket, \xff@. \x01\x00"},
		{bigGood, "\x04\x0a" + "alice\x00admin\x00ATHENA\x00" + "\x0a\x0b\x0c\x0d" + "\x00\x00\x00\x4c" + "no ticket, \xff@. \x01\x00"},
		{leastError(), "\x04\x0a" + "a\x00\x00R\x00" + "\x00\x00\x00\x00" + "\x00\x00\x00\x01" + "\x00"},
	}
	errorReplies.acceptedAs(t, tests)
}

// farCodes are codes beyond those of messages, also those whose remainder is one of them.
func farCodes() []api.Errno {
	l := []api.Errno{math.MinInt, math.MinInt + 1, math.MinInt + 8, math.MaxInt, math.MaxInt - 1, 1 << 31, -1 << 31}
	for _, code := range []api.Errno{0, 1, 2, 8, 10, 50, 99} {
		for _, bits := range []int{7, 8, 15, 16, 31, 32, 33, 62} {
			l = append(l, code+1<<bits, code-1<<bits)
		}
	}
	return l
}

// P9.4: every code near those of messages, and others.
func TestErrorCodes(t *testing.T) {
	for code := api.Errno(-300); code <= 600; code++ {
		r := errorReplies.with(func(r *api.ErrorReply) { r.Code = code })
		errorReplies.refusedIf(t, code < 1 || code > 99, r, api.ErrRange)
	}
	for _, code := range farCodes() {
		errorReplies.refused(t, errorReplies.with(func(r *api.ErrorReply) { r.Code = code }), api.ErrRange)
	}
}

// P9.4: a number that is no code of messages is decoded in neither byte order.
func TestDecodeErrorCodes(t *testing.T) {
	for _, little := range orders {
		for n := range 1 << 16 {
			r := errorReplies.inOrder(goodError(), little)
			for _, code := range []int{n, n << 16, n<<16 + n} {
				r.Code = api.Errno(code)
				wanted := api.ErrSyntax
				if 1 <= code && code <= 99 {
					wanted = api.OK
				}
				if e := errorReplies.try(t, joinError(r)); e != wanted {
					t.Errorf("decodeByHand with the code %d has the error %d", code, e)
				}
			}
		}
	}
}

// P9.4: a text of every length, with every byte in every place.
func TestErrorTexts(t *testing.T) {
	c := errorReplies
	for n := range 120 {
		for _, fill := range []string{"x", "\xff", " ", "."} {
			r := c.with(func(r *api.ErrorReply) { r.Text = strings.Repeat(fill, n) })
			c.refusedIf(t, n > 39, r, api.ErrTooLong)
			if n > 39 {
				c.fails(t, joinError(r), api.ErrSyntax)
			}
		}
		for at := range n {
			want := api.ErrSyntax
			if n > 39 {
				want = api.ErrTooLong
			}
			text := strings.Repeat("x", at) + "\x00" + strings.Repeat("x", n-at-1)
			r := c.with(func(r *api.ErrorReply) { r.Text = text })
			c.refused(t, r, want)
			c.fails(t, joinError(r), api.ErrSyntax)
		}
	}
	for i := range 256 {
		for _, n := range []int{1, 2, 39} {
			for _, at := range []int{0, n - 1} {
				text := strings.Repeat("x", at) + string([]byte{byte(i)}) + strings.Repeat("x", n-at-1)
				c.refusedIf(t, i == 0, c.with(func(r *api.ErrorReply) { r.Text = text }), api.ErrSyntax)
			}
		}
	}
	for _, n := range []int{255, 256, 257, 256 + 39, 1<<16 + 1} {
		c.refused(t, c.with(func(r *api.ErrorReply) { r.Text = sample.Name(n) }), api.ErrTooLong)
	}
}

// P9.4: the texts of all codes.
func TestMessage(t *testing.T) {
	texts := map[api.Errno]string{
		1:  "client expired",
		2:  "service expired",
		3:  "no lifetime left",
		4:  "protocol version",
		5:  "not a client",
		6:  "not a service",
		7:  "byte order",
		8:  "principal unknown",
		9:  "principal not unique",
		10: "no key",
	}
	check := func(code api.Errno) {
		want, found := texts[code]
		if !found {
			want = "request refused"
		}
		if s := kdcmessage.Message(code); s != want {
			t.Errorf("Message(%d) = %q, want %q", code, s, want)
		}
	}
	for range 2 {
		for code := api.Errno(-300); code <= 600; code++ {
			check(code)
		}
		for _, code := range farCodes() {
			check(code)
		}
	}
}

// P9.4: every code of messages can be sent with its text.
func TestMessageEncoded(t *testing.T) {
	for code := api.Errno(1); code <= 99; code++ {
		r := errorReplies.with(func(r *api.ErrorReply) { r.Code, r.Text = code, kdcmessage.Message(code) })
		errorReplies.refusedIf(t, false, r, api.OK)
	}
}
