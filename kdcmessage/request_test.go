package kdcmessage_test

import (
	"math/rand"
	"testing"

	"kerbsuite/api"
	"kerbsuite/kdcmessage"
	"kerbsuite/sample"
)

func goodRequest() api.KdcRequest {
	return api.KdcRequest{
		Little:   true,
		Client:   api.Principal{Name: "alice", Instance: "admin", Realm: "ATHENA"},
		Time:     0x0a0b0c0d,
		Life:     96,
		Service:  "rcmd",
		Instance: "host.mit",
	}
}

func leastRequest() api.KdcRequest {
	return api.KdcRequest{Client: api.Principal{Name: "a", Realm: "R"}, Service: "s"}
}

func greatestRequest() api.KdcRequest {
	n := sample.Name(39)
	return api.KdcRequest{Little: true, Client: api.Principal{Name: n, Instance: n, Realm: n}, Time: 1<<32 - 1, Life: 255, Service: n, Instance: n}
}

// checkRequest checks a request as P9.1 says.
func checkRequest(r api.KdcRequest) api.Errno {
	if !sample.IsPrincipal(r.Client) || !sample.IsName(r.Service) || !sample.IsInstance(r.Instance) {
		return api.ErrName
	}
	if r.Time < 0 || r.Time > 1<<32-1 || r.Life < 0 || r.Life > 255 {
		return api.ErrRange
	}
	return api.OK
}

// joinRequest returns the bytes of r as P9.1 says.
func joinRequest(r api.KdcRequest) []byte {
	b := putPrincipal(putHeader(1, r.Little), r.Client)
	b = order(r.Little).AppendUint32(b, uint32(r.Time))
	b = append(b, byte(r.Life))
	return append(b, r.Service+"\x00"+r.Instance+"\x00"...)
}

// readRequest reads the bytes of a request as P9.1 says.
func readRequest(r *reader) api.KdcRequest {
	return api.KdcRequest{Little: r.little, Client: r.principal(), Time: r.number(), Life: r.octet(), Service: r.text(), Instance: r.text()}
}

func randomRequest(r *rand.Rand) api.KdcRequest {
	return api.KdcRequest{
		Client:   randomPrincipal(r),
		Time:     sample.Number(r.Intn, 1<<32-1),
		Life:     sample.Number(r.Intn, 255),
		Service:  sample.Text(r.Intn),
		Instance: sample.Text(r.Intn),
	}
}

var requests = codec[api.KdcRequest]{
	encode:   kdcmessage.EncodeRequest,
	decode:   kdcmessage.DecodeRequest,
	check:    checkRequest,
	join:     joinRequest,
	finish:   sameBytes,
	read:     readRequest,
	open:     openMessage(1),
	good:     goodRequest,
	least:    leastRequest,
	greatest: greatestRequest,
	inOrder:  func(r api.KdcRequest, little bool) api.KdcRequest { r.Little = little; return r },
	texts: append(principalFields(func(r *api.KdcRequest) *api.Principal { return &r.Client }),
		textField[api.KdcRequest]{1, ".@", func(r *api.KdcRequest) *string { return &r.Service }},
		textField[api.KdcRequest]{0, "@", func(r *api.KdcRequest) *string { return &r.Instance }}),
	numbers: []numberField[api.KdcRequest]{
		{1<<32 - 1, func(r *api.KdcRequest) *int { return &r.Time }},
		{255, func(r *api.KdcRequest) *int { return &r.Life }},
	},
	more: []func(r *api.KdcRequest){
		func(r *api.KdcRequest) { r.Service, r.Instance = "krbtgt", "LCS.MIT" },
		func(r *api.KdcRequest) { r.Client.Instance, r.Instance = "", "" },
		func(r *api.KdcRequest) { r.Client.Instance, r.Client.Realm, r.Instance = "a.b.", "a.B", "." },
		func(r *api.KdcRequest) { r.Client.Name, r.Service = "!~", "~!" },
	},
	faults: []fault[api.KdcRequest]{
		{api.ErrName, func(r *api.KdcRequest) { r.Client.Name = "" }},
		{api.ErrName, func(r *api.KdcRequest) { r.Client.Instance = "@" }},
		{api.ErrName, func(r *api.KdcRequest) { r.Client.Realm = sample.Name(40) }},
		{api.ErrName, func(r *api.KdcRequest) { r.Service = "a.b" }},
		{api.ErrName, func(r *api.KdcRequest) { r.Service = "" }},
		{api.ErrName, func(r *api.KdcRequest) { r.Instance = "@" }},
		{api.ErrRange, func(r *api.KdcRequest) { r.Time = -1 }},
		{api.ErrRange, func(r *api.KdcRequest) { r.Time = 1 << 32 }},
		{api.ErrRange, func(r *api.KdcRequest) { r.Life = -1 }},
		{api.ErrRange, func(r *api.KdcRequest) { r.Life = 256 }},
	},
	random: randomRequest,
}

// P9.1, P9.5, G1, G2, G5.
func TestRequests(t *testing.T) {
	requests.checkAll(t)
}

// P9.1: requests that are written out.
func TestRequestBytes(t *testing.T) {
	bigGood := goodRequest()
	bigGood.Little = false
	tests := []written[api.KdcRequest]{
		{goodRequest(), "\x04\x03" + "alice\x00admin\x00ATHENA\x00" + "\x0d\x0c\x0b\x0a" + "\x60" + "rcmd\x00host.mit\x00"},
		{bigGood, "\x04\x02" + "alice\x00admin\x00ATHENA\x00" + "\x0a\x0b\x0c\x0d" + "\x60" + "rcmd\x00host.mit\x00"},
		{leastRequest(), "\x04\x02" + "a\x00\x00R\x00" + "\x00\x00\x00\x00" + "\x00" + "s\x00\x00"},
		{
			api.KdcRequest{Little: true, Client: api.Principal{Name: "a", Instance: "b.c", Realm: "d"}, Time: 1<<32 - 2, Life: 255, Service: "krbtgt", Instance: "d"},
			"\x04\x03" + "a\x00b.c\x00d\x00" + "\xfe\xff\xff\xff" + "\xff" + "krbtgt\x00d\x00",
		},
	}
	requests.acceptedAs(t, tests)
}

// P9.1: texts that are no requests, in the order of the errors.
func TestDecodeRequestErrors(t *testing.T) {
	const fields = "a\x00\x00R\x00" + "\x00\x00\x00\x00" + "\x00" + "s\x00\x00"
	tests := []struct {
		b string
		e api.Errno
	}{
		{"\x04\x03" + fields, api.OK},
		{"", api.ErrTruncated},
		{"\x04", api.ErrTruncated},
		{"\x05", api.ErrTruncated},
		{"\x05\x03" + fields, api.ErrVersion},
		{"\x05\x04" + fields, api.ErrVersion},
		{"\x05\x00", api.ErrVersion},
		{"\x04\x00" + fields, api.ErrMsgType},
		{"\x04\x01" + fields, api.ErrMsgType},
		{"\x04\x04" + fields, api.ErrMsgType},
		{"\x04\x0a" + fields, api.ErrMsgType},
		{"\x04\x05", api.ErrMsgType},
		{"\x04\x16" + fields, api.ErrMsgType},
		{"\x04\x83" + fields, api.ErrMsgType},
		{"\x04\x03", api.ErrSyntax},
		{"\x04\x03" + fields[1:], api.ErrSyntax},
		{"\x04\x03" + fields[:len(fields)-1], api.ErrSyntax},
		{"\x04\x03" + fields + "\x00", api.ErrSyntax},
		{"\x04\x03" + "a.b\x00\x00R\x00" + "\x00\x00\x00\x00" + "\x00" + "s\x00\x00", api.ErrSyntax},
		{"\x04\x03" + "a\x00\x00R\x00" + "\x00\x00\x00\x00" + "\x00" + "s.\x00\x00", api.ErrSyntax},
		{"\x04\x03" + "a\x00\x00R\x00" + "\x00\x00\x00\x00" + "\x00" + "s\x00@\x00", api.ErrSyntax},
	}
	for _, x := range tests {
		if r, e := kdcmessage.DecodeRequest([]byte(x.b)); e != x.e || e != api.OK && r != (api.KdcRequest{}) {
			t.Errorf("DecodeRequest(%q) = %#v, %d, want %d", x.b, r, e, x.e)
		}
	}
}
