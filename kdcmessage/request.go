package kdcmessage

import (
	"kerbsuite/api"
	"kerbsuite/field"
	"kerbsuite/header"
	"kerbsuite/principal"
)

// EncodeRequest returns the message that asks an authentication server for a ticket.
func EncodeRequest(r api.KdcRequest) ([]byte, api.Errno) {
	if e := checkRequest(r); e != api.OK {
		return nil, e
	}
	b := header.Put(api.MsgKdcRequest, r.Little)
	b = field.PutPrincipal(b, r.Client)
	b = field.PutNumber(b, r.Time, r.Little)
	b = field.PutOctet(b, r.Life)
	b = field.PutText(b, r.Service)
	return field.PutText(b, r.Instance), api.OK
}

// checkRequest returns the first error of r.
func checkRequest(r api.KdcRequest) api.Errno {
	switch {
	case !principal.Valid(r.Client) || !principal.ValidName(r.Service) || !principal.ValidInstance(r.Instance):
		return api.ErrName
	case !upTo(r.Time, api.MaxTime) || !upTo(r.Life, api.MaxLife):
		return api.ErrRange
	}
	return api.OK
}

// DecodeRequest returns the request whose encoding is b.
func DecodeRequest(b []byte) (api.KdcRequest, api.Errno) {
	return decode(b, api.MsgKdcRequest, readRequest, EncodeRequest)
}

// readRequest returns the only request whose encoding in this byte order b can be.
func readRequest(b []byte, little bool) api.KdcRequest {
	r := api.KdcRequest{Little: little}
	at := headerSize
	r.Client, at, _ = field.Principal(b, at)
	r.Time, at, _ = field.Number(b, at, little)
	r.Life, at, _ = field.Octet(b, at)
	r.Service, at, _ = field.Text(b, at)
	r.Instance, _, _ = field.Text(b, at)
	return r
}
