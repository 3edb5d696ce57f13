package kdcmessage_test

import (
	"math/rand"
	"slices"
	"testing"

	"kerbsuite/api"
	"kerbsuite/kdcmessage"
)

// errorsOf returns the errors with which b is decoded as a request, a reply and an error reply.
func errorsOf(b []byte) []api.Errno {
	_, request := kdcmessage.DecodeRequest(b)
	_, reply := kdcmessage.DecodeReply(b)
	_, errorReply := kdcmessage.DecodeError(b)
	return []api.Errno{request, reply, errorReply}
}

// messages returns messages of each type, in the order of errorsOf.
func messages() [][][]byte {
	l := make([][][]byte, 3)
	for _, r := range requests.values() {
		l[0] = append(l[0], joinRequest(r))
	}
	for _, r := range replies.values() {
		l[1] = append(l[1], joinReply(r))
	}
	for _, r := range errorReplies.values() {
		l[2] = append(l[2], joinError(r))
	}
	return l
}

// P9.5: a message of one type is a message of another type to each other function.
func TestOtherTypes(t *testing.T) {
	for i, l := range messages() {
		want := []api.Errno{api.ErrMsgType, api.ErrMsgType, api.ErrMsgType}
		want[i] = api.OK
		for _, b := range l {
			if got := errorsOf(b); !slices.Equal(got, want) {
				t.Errorf("%q is decoded with the errors %v, want %v", b, got, want)
			}
		}
	}
}

// P9.1, P9.3 to P9.5: whatever the header says, at most one function decodes a message.
func TestAllHeaders(t *testing.T) {
	seconds := [][]byte{{2, 3}, {4, 5}, {10, 11}}
	for _, good := range [][]byte{joinRequest(goodRequest()), joinReply(goodReply()), joinError(goodError())} {
		for second := range 256 {
			b := slices.Clone(good)
			b[1] = byte(second)
			for i, e := range errorsOf(b) {
				if isType := slices.Contains(seconds[i], byte(second)); isType == (e == api.ErrMsgType) {
					t.Errorf("%q is decoded with the errors %v", b, errorsOf(b))
				}
			}
		}
	}
}

// P9.5: nor is a part a message, or any damaged message one of two types.
func TestAtMostOneType(t *testing.T) {
	r := rand.New(rand.NewSource(12))
	l := messages()
	for _, little := range orders {
		for _, p := range parts(little).values() {
			if got := errorsOf(parts(little).encoding(p)); slices.Contains(got, api.OK) {
				t.Errorf("the part %#v is decoded with the errors %v", p, got)
			}
		}
	}
	for range 20000 {
		of := l[r.Intn(len(l))]
		b := of[r.Intn(len(of))]
		b = slices.Concat(b[:r.Intn(len(b)+1)], randomBytes(r, 300))
		if len(b) > 1 && r.Intn(2) == 0 {
			b[1] = byte(r.Intn(24))
		}
		count := 0
		for _, e := range errorsOf(b) {
			if e == api.OK {
				count++
			}
		}
		if count > 1 {
			t.Errorf("%q is decoded by %d functions", b, count)
		}
	}
}
