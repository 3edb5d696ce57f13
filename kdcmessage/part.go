package kdcmessage

import (
	"kerbsuite/api"
	"kerbsuite/field"
	"kerbsuite/key"
	"kerbsuite/principal"
)

const (
	// The first byte of a part says in which byte order its numbers are.
	bigEndian    = 0
	littleEndian = 1
	// orderSize is the number of bytes in front of the session key.
	orderSize = 1
	// keySize is the number of bytes of a session key.
	keySize = 8
)

// orderOf returns the first byte of a part.
func orderOf(little bool) int {
	if little {
		return littleEndian
	}
	return bigEndian
}

// EncodePart returns the bytes of p that are sealed.
func EncodePart(p api.ReplyPart, little bool) ([]byte, api.Errno) {
	if e := checkPart(p); e != api.OK {
		return nil, e
	}
	b := field.PutOctet(nil, orderOf(little))
	b = append(b, key.Bytes(p.Session)...)
	b = field.PutPrincipal(b, p.Service)
	b = field.PutOctet(b, p.Life)
	b = field.PutOctet(b, p.Kvno)
	b = field.PutOctet(b, len(p.Ticket))
	b = append(b, p.Ticket...)
	b = field.PutNumber(b, p.Time, little)
	return field.Pad(b), api.OK
}

// checkPart returns the first error of p.
func checkPart(p api.ReplyPart) api.Errno {
	switch {
	case !key.Valid(p.Session):
		return api.ErrNullKey
	case !principal.Valid(p.Service):
		return api.ErrName
	case !upTo(p.Life, api.MaxLife) || !upTo(p.Kvno, api.MaxVersion) || !upTo(p.Time, api.MaxTime):
		return api.ErrRange
	case len(p.Ticket) > api.MaxTicket:
		return api.ErrTooLong
	}
	return api.OK
}

// DecodePart returns the part whose encoding in this byte order is b.
func DecodePart(b []byte, little bool) (api.ReplyPart, api.Errno) {
	encode := func(p api.ReplyPart) ([]byte, api.Errno) { return EncodePart(p, little) }
	return confirm(b, readPart(b, little), encode)
}

// readPart returns the only part whose encoding in this byte order b can be.
func readPart(b []byte, little bool) api.ReplyPart {
	var p api.ReplyPart
	session, at, _ := field.Bytes(b, orderSize, keySize)
	p.Session, _ = key.Read(session)
	p.Service, at, _ = field.Principal(b, at)
	p.Life, at, _ = field.Octet(b, at)
	p.Kvno, at, _ = field.Octet(b, at)
	length, at, _ := field.Octet(b, at)
	p.Ticket, at, _ = field.Bytes(b, at, length)
	p.Time, _, _ = field.Number(b, at, little)
	return p
}
