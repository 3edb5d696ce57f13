package kdcmessage

import (
	"kerbsuite/api"
	"kerbsuite/field"
	"kerbsuite/header"
	"kerbsuite/principal"
)

const (
	// tickets is the number of tickets in a reply, which the message names.
	tickets = 1
	// ticketsSize is the number of bytes of that number.
	ticketsSize = 1
	// maxSealed is the greatest number of bytes of a box: 12 and those of its body.
	maxSealed = 12 + api.MaxBody
)

// EncodeReply returns the message that answers a request with a ticket.
func EncodeReply(r api.KdcReply) ([]byte, api.Errno) {
	if e := checkReply(r); e != api.OK {
		return nil, e
	}
	b := header.Put(api.MsgKdcReply, r.Little)
	b = field.PutPrincipal(b, r.Client)
	b = field.PutNumber(b, r.Time, r.Little)
	b = field.PutOctet(b, tickets)
	b = field.PutNumber(b, r.Expires, r.Little)
	b = field.PutOctet(b, r.Kvno)
	b = field.PutShort(b, len(r.Sealed), r.Little)
	return append(b, r.Sealed...), api.OK
}

// checkReply returns the first error of r.
func checkReply(r api.KdcReply) api.Errno {
	switch {
	case !principal.Valid(r.Client):
		return api.ErrName
	case !upTo(r.Time, api.MaxTime) || !upTo(r.Expires, api.MaxTime) || !upTo(r.Kvno, api.MaxVersion):
		return api.ErrRange
	case len(r.Sealed) > maxSealed:
		return api.ErrTooLong
	}
	return api.OK
}

// DecodeReply returns the reply whose encoding is b.
func DecodeReply(b []byte) (api.KdcReply, api.Errno) {
	return decode(b, api.MsgKdcReply, readReply, EncodeReply)
}

// readReply returns the only reply whose encoding in this byte order b can be.
func readReply(b []byte, little bool) api.KdcReply {
	r := api.KdcReply{Little: little}
	at := headerSize
	r.Client, at, _ = field.Principal(b, at)
	r.Time, at, _ = field.Number(b, at, little)
	r.Expires, at, _ = field.Number(b, at+ticketsSize, little)
	r.Kvno, at, _ = field.Octet(b, at)
	length, at, _ := field.Short(b, at, little)
	r.Sealed, _, _ = field.Bytes(b, at, length)
	return r
}
