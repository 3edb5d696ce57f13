// Package principal: names of clients and services (chapter 1).
package principal

import (
	"strings"

	"kerbsuite/api"
)

// tgsName is the name of every ticket-granting server.
const tgsName = "krbtgt"

// ValidName reports whether s may be the name of a principal.
// A dot is refused because Parse ends the name at the first one.
func ValidName(s string) bool {
	return s != "" && ValidInstance(s) && !strings.Contains(s, ".")
}

// ValidInstance reports whether s may be the instance of a principal; it may be empty and contain dots.
func ValidInstance(s string) bool {
	if len(s) > api.MaxName {
		return false
	}
	for i := range len(s) {
		if !validByte(s[i]) {
			return false
		}
	}
	return true
}

// ValidRealm reports whether s may be the realm of a principal.
func ValidRealm(s string) bool {
	return s != "" && ValidInstance(s)
}

// validByte reports whether c is printable, not a space and not the `@` in front of a realm.
func validByte(c byte) bool {
	return 33 <= c && c <= 126 && c != '@'
}

// Valid reports whether all three parts of p are valid.
func Valid(p api.Principal) bool {
	return ValidName(p.Name) && ValidInstance(p.Instance) && ValidRealm(p.Realm)
}

// Parse reads name, name.instance, name@realm or name.instance@realm; realm is the default realm.
func Parse(s, realm string) (api.Principal, api.Errno) {
	local, r, found := strings.Cut(s, "@")
	if !found {
		r = realm
	}
	// A realm may contain dots, so the instance is looked for only in front of the `@`.
	name, instance, _ := strings.Cut(local, ".")
	p := api.Principal{Name: name, Instance: instance, Realm: r}
	if !Valid(p) {
		return api.Principal{}, api.ErrName
	}
	return p, api.OK
}

// Format returns the text of p that Parse reads.
func Format(p api.Principal) (string, api.Errno) {
	if !Valid(p) {
		return "", api.ErrName
	}
	s := p.Name
	if p.Instance != "" {
		s += "." + p.Instance
	}
	return s + "@" + p.Realm, api.OK
}

// Compare orders principals by Realm, then by Name, then by Instance.
func Compare(a, b api.Principal) int {
	if n := strings.Compare(a.Realm, b.Realm); n != 0 {
		return n
	}
	if n := strings.Compare(a.Name, b.Name); n != 0 {
		return n
	}
	return strings.Compare(a.Instance, b.Instance)
}

// Tgs returns the server that makes tickets in target, as realm knows it.
func Tgs(realm, target string) api.Principal {
	return api.Principal{Name: tgsName, Instance: target, Realm: realm}
}

// IsTgs reports whether p is a ticket-granting server, of whatever realm.
func IsTgs(p api.Principal) bool {
	return p.Name == tgsName
}
