package kdcmessage

import (
	"strings"

	"kerbsuite/api"
	"kerbsuite/field"
	"kerbsuite/header"
	"kerbsuite/principal"
)

const (
	// The codes that appear in messages.
	firstCode = 1
	lastCode  = 99
	// refused is the text of every code that has none of its own.
	refused = "request refused"
)

// codeText is a code with its text.
type codeText struct {
	code api.Errno
	text string
}

// codeTexts are the codes that have texts of their own.
var codeTexts = [...]codeText{
	{api.ErrNameExp, "client expired"},
	{api.ErrServiceExp, "service expired"},
	{api.ErrAuthExp, "no lifetime left"},
	{api.ErrPktVer, "protocol version"},
	{api.ErrNameKeyVer, "not a client"},
	{api.ErrServKeyVer, "not a service"},
	{api.ErrByteOrder, "byte order"},
	{api.ErrUnknown, "principal unknown"},
	{api.ErrNotUnique, "principal not unique"},
	{api.ErrNullKey, "no key"},
}

// Message returns the text with which a server refuses a request.
func Message(code api.Errno) string {
	for _, c := range codeTexts {
		if c.code == code {
			return c.text
		}
	}
	return refused
}

// EncodeError returns the message that tells a client why there is no other reply.
func EncodeError(r api.ErrorReply) ([]byte, api.Errno) {
	if e := checkError(r); e != api.OK {
		return nil, e
	}
	b := header.Put(api.MsgError, r.Little)
	b = field.PutPrincipal(b, r.Client)
	b = field.PutNumber(b, r.Time, r.Little)
	b = field.PutNumber(b, int(r.Code), r.Little)
	return field.PutText(b, r.Text), api.OK
}

// checkError returns the first error of r. Its text need not be that of its code.
func checkError(r api.ErrorReply) api.Errno {
	switch {
	case !principal.Valid(r.Client):
		return api.ErrName
	case !upTo(r.Time, api.MaxTime) || r.Code < firstCode || r.Code > lastCode:
		return api.ErrRange
	case len(r.Text) > api.MaxName:
		return api.ErrTooLong
	case strings.Contains(r.Text, "\x00"): // it would end the text
		return api.ErrSyntax
	}
	return api.OK
}

// DecodeError returns the error reply whose encoding is b.
func DecodeError(b []byte) (api.ErrorReply, api.Errno) {
	return decode(b, api.MsgError, readError, EncodeError)
}

// readError returns the only error reply whose encoding in this byte order b can be.
func readError(b []byte, little bool) api.ErrorReply {
	r := api.ErrorReply{Little: little}
	at := headerSize
	r.Client, at, _ = field.Principal(b, at)
	r.Time, at, _ = field.Number(b, at, little)
	code, at, _ := field.Number(b, at, little)
	r.Code = api.Errno(code)
	r.Text, _, _ = field.Text(b, at)
	return r
}
