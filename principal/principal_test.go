package principal_test

import (
	"strings"
	"testing"

	"kerbsuite/api"
	"kerbsuite/principal"
)

// make3 shortens the tables below.
func make3(name, instance, realm string) api.Principal {
	return api.Principal{Name: name, Instance: instance, Realm: realm}
}

// parts are texts that are valid in all, some or none of the three places.
func parts() []string {
	long := strings.Repeat("x", api.MaxName)
	return []string{"", "a", "b", "ab", "a.", ".a", ".", "a.b", "..", "@", "a@", "@a", "a b", "a\x00", "\x7f", "\x80", "\xff", "é", "~!", "krbtgt", long, long + "x", long[1:] + "."}
}

// principals are all combinations of the texts of l.
func principals(l []string) []api.Principal {
	var ps []api.Principal
	for _, n := range l {
		for _, i := range l {
			for _, r := range l {
				ps = append(ps, make3(n, i, r))
			}
		}
	}
	return ps
}

// P1.1: every single byte, in front of, between and behind good ones.
func TestValidBytes(t *testing.T) {
	for c := range 256 {
		inside := c >= 33 && c <= 126 && c != '@'
		b := string([]byte{byte(c)})
		for _, s := range []string{b, b + "a", "a" + b, "a" + b + "a"} {
			if got, want := principal.ValidName(s), inside && c != '.'; got != want {
				t.Errorf("ValidName(%q) = %v, want %v", s, got, want)
			}
			if got := principal.ValidInstance(s); got != inside {
				t.Errorf("ValidInstance(%q) = %v, want %v", s, got, inside)
			}
			if got := principal.ValidRealm(s); got != inside {
				t.Errorf("ValidRealm(%q) = %v, want %v", s, got, inside)
			}
		}
	}
}

// P1.1: every length up to and beyond the limit.
func TestValidLengths(t *testing.T) {
	for n := range 3*api.MaxName + 1 {
		s := strings.Repeat("x", n)
		short := n <= api.MaxName
		if got, want := principal.ValidName(s), short && n > 0; got != want {
			t.Errorf("ValidName of %d bytes = %v, want %v", n, got, want)
		}
		if got := principal.ValidInstance(s); got != short {
			t.Errorf("ValidInstance of %d bytes = %v, want %v", n, got, short)
		}
		if got, want := principal.ValidRealm(s), short && n > 0; got != want {
			t.Errorf("ValidRealm of %d bytes = %v, want %v", n, got, want)
		}
	}
}

// P1.1: the limit counts bytes, and a bad byte counts wherever it stands.
func TestValidPlaces(t *testing.T) {
	for i := range api.MaxName {
		for _, bad := range []string{" ", "@", "\x00", "\x7f", "\x80"} {
			s := strings.Repeat("x", i) + bad + strings.Repeat("x", api.MaxName-1-i)
			if principal.ValidName(s) || principal.ValidInstance(s) || principal.ValidRealm(s) {
				t.Errorf("%q is valid", s)
			}
		}
		s := strings.Repeat("x", i) + "." + strings.Repeat("x", api.MaxName-1-i)
		if principal.ValidName(s) || !principal.ValidInstance(s) || !principal.ValidRealm(s) {
			t.Errorf("%q: a dot is valid only outside of names", s)
		}
	}
}

// P1.1: Valid asks for all three parts.
func TestValid(t *testing.T) {
	for _, p := range principals(parts()) {
		want := principal.ValidName(p.Name) && principal.ValidInstance(p.Instance) && principal.ValidRealm(p.Realm)
		if got := principal.Valid(p); got != want {
			t.Errorf("Valid(%q) = %v, want %v", p, got, want)
		}
	}
	long := strings.Repeat("x", api.MaxName)
	for _, p := range []api.Principal{make3("a", "", "R"), make3("a", "b", "R"), make3("a", "b.c.", ".R"), make3("a", ".", "."), make3(long, long, long)} {
		if !principal.Valid(p) {
			t.Errorf("Valid(%q) = false", p)
		}
	}
	for _, p := range []api.Principal{{}, make3("", "b", "R"), make3("a", "b", ""), make3("a.", "b", "R"), make3("a", "@", "R"), make3("a", "b", "R@"), make3(long+"x", "", "R"), make3("a", long+"x", "R"), make3("a", "", long+"x")} {
		if principal.Valid(p) {
			t.Errorf("Valid(%q) = true", p)
		}
	}
}

// P1.2: the four forms and what is close to them.
func TestParse(t *testing.T) {
	long := strings.Repeat("x", api.MaxName)
	tests := []struct {
		s, realm string
		want     api.Principal
	}{
		{"a", "R", make3("a", "", "R")},
		{"a.b", "R", make3("a", "b", "R")},
		{"a@S", "R", make3("a", "", "S")},
		{"a.b@S", "R", make3("a", "b", "S")},
		{"rcmd.host.mit@ATHENA", "R", make3("rcmd", "host.mit", "ATHENA")},
		{"a.@R", "S", make3("a", "", "R")},
		{"a.", "R", make3("a", "", "R")},
		{"a..", "R", make3("a", ".", "R")},
		{"a..b", "R", make3("a", ".b", "R")},
		{"a.b.", "R", make3("a", "b.", "R")},
		{"a@S.T", "R", make3("a", "", "S.T")},
		{"a@.", "R", make3("a", "", ".")},
		{"a.b@S.T", "R", make3("a", "b", "S.T")},
		// the argument realm counts only without an @
		{"a@S", "", make3("a", "", "S")},
		{"a@S", "not valid", make3("a", "", "S")},
		{"a@S", "@", make3("a", "", "S")},
		{"a", "S.T", make3("a", "", "S.T")},
		{long + "." + long + "@" + long, "", make3(long, long, long)},
		{long, long, make3(long, "", long)},
	}
	for _, x := range tests {
		if p, e := principal.Parse(x.s, x.realm); p != x.want || e != api.OK {
			t.Errorf("Parse(%q, %q) = %q, %d, want %q", x.s, x.realm, p, e, x.want)
		}
	}
}

// P1.2: with ErrName the result is zero.
func TestParseErrors(t *testing.T) {
	long := strings.Repeat("x", api.MaxName)
	tests := []struct{ s, realm string }{
		{"", "R"},
		{"", ""},
		{"a", ""},
		{"a.b", ""},
		{"a@", "R"},
		{"a.b@", "R"},
		{"@", "R"},
		{"@R", "R"},
		{".", "R"},
		{".b", "R"},
		{".b@S", "R"},
		{".@", "R"},
		{"a@b@c", "R"},
		{"a@@", "R"},
		{"a@b@", "R"},
		{"a.b@S@", "R"},
		{"a b", "R"},
		{"a.b c", "R"},
		{"a@b c", "R"},
		{"a\n", "R"},
		{"a\x00", "R"},
		{"é", "R"},
		{"a", "é"},
		{"a", "R@"},
		{"a", "R@S"},
		{"a", "R S"},
		{long + "x", "R"},
		{"a." + long + "x", "R"},
		{"a@" + long + "x", "R"},
		{"a", long + "x"},
		{strings.Repeat("x", 100000), "R"},
		{"a" + strings.Repeat("@", 100000), "R"},
		{"a" + strings.Repeat(".", 100000), "R"},
	}
	for _, x := range tests {
		if p, e := principal.Parse(x.s, x.realm); p != (api.Principal{}) || e != api.ErrName {
			t.Errorf("Parse(%q, %q) = %q, %d, want ErrName", x.s, x.realm, p, e)
		}
	}
}

// texts are all texts of at most n bytes of the alphabet.
func texts(alphabet string, n int) []string {
	all := []string{""}
	for from := 0; n > 0; n-- {
		end := len(all)
		for _, s := range all[from:end] {
			for i := range len(alphabet) {
				all = append(all, s+alphabet[i:i+1])
			}
		}
		from = end
	}
	return all
}

// parseByHand reads the text byte by byte, as P1.2 describes it.
func parseByHand(s, realm string) (api.Principal, api.Errno) {
	var p api.Principal
	at, dot := false, false
	for i := range len(s) {
		c := s[i : i+1]
		switch {
		case at:
			p.Realm += c
		case c == "@":
			at = true
		case dot:
			p.Instance += c
		case c == ".":
			dot = true
		default:
			p.Name += c
		}
	}
	if !at {
		p.Realm = realm
	}
	if !principal.Valid(p) {
		return api.Principal{}, api.ErrName
	}
	return p, api.OK
}

// P1.2: all short texts of the bytes that matter.
func TestParseAllShort(t *testing.T) {
	for _, s := range texts("a.@ ", 7) {
		for _, realm := range []string{"R", "", "@"} {
			p, e := principal.Parse(s, realm)
			if want, f := parseByHand(s, realm); p != want || e != f {
				t.Fatalf("Parse(%q, %q) = %q, %d, want %q, %d", s, realm, p, e, want, f)
			}
		}
	}
}

// P1.3: an empty instance has no dot.
func TestFormat(t *testing.T) {
	long := strings.Repeat("x", api.MaxName)
	tests := []struct {
		p    api.Principal
		want string
	}{
		{make3("a", "", "R"), "a@R"},
		{make3("a", "b", "R"), "a.b@R"},
		{make3("rcmd", "host.mit", "ATHENA"), "rcmd.host.mit@ATHENA"},
		{make3("a", ".", "."), "a..@."},
		{make3("krbtgt", "B", "A"), "krbtgt.B@A"},
		{make3(long, long, long), long + "." + long + "@" + long},
	}
	for _, x := range tests {
		if s, e := principal.Format(x.p); s != x.want || e != api.OK {
			t.Errorf("Format(%q) = %q, %d, want %q", x.p, s, e, x.want)
		}
	}
}

// P1.3: what is not valid has no text.
func TestFormatErrors(t *testing.T) {
	for _, p := range principals(parts()) {
		s, e := principal.Format(p)
		if principal.Valid(p) {
			if s == "" || e != api.OK {
				t.Errorf("Format(%q) = %q, %d, want a text", p, s, e)
			}
		} else if s != "" || e != api.ErrName {
			t.Errorf("Format(%q) = %q, %d, want ErrName", p, s, e)
		}
	}
}

// P1.4: in ascending order, bytewise, with principals that are not valid.
func TestCompareOrder(t *testing.T) {
	l := []api.Principal{
		{},
		make3("", "\x00", ""),
		make3("", "z", ""),
		make3("", "\xff", ""),
		make3("a", "", ""),
		make3("z", "z", "A"),
		make3("b", "", "R"),
		make3("b", "A", "R"),
		make3("b", "a", "R"),
		make3("b", "a.", "R"),
		make3("b", "aa", "R"),
		make3("b\x00", "", "R"),
		make3("ba", "", "R"),
		make3("c", "", "R"),
		make3("\x80", "", "R"),
		make3("a", "", "R\x00"),
		make3("a", "", "RR"),
		make3("", "", "r"),
		make3("a", "a", "é"),
	}
	for i, a := range l {
		for k, b := range l {
			want := min(max(i-k, -1), 1)
			if n := principal.Compare(a, b); n != want {
				t.Errorf("Compare(%q, %q) = %d, want %d", a, b, n, want)
			}
		}
	}
}

// P1.5: the target is the instance, whatever the texts are.
func TestTgs(t *testing.T) {
	for _, realm := range parts() {
		for _, target := range parts() {
			p := principal.Tgs(realm, target)
			if p != make3("krbtgt", target, realm) {
				t.Errorf("Tgs(%q, %q) = %q", realm, target, p)
			}
			if !principal.IsTgs(p) {
				t.Errorf("IsTgs(%q) = false", p)
			}
		}
	}
}

// P1.5: the name alone counts, bytewise.
func TestIsTgs(t *testing.T) {
	for _, p := range []api.Principal{make3("krbtgt", "", ""), make3("krbtgt", "x", "R"), make3("krbtgt", "@", "@")} {
		if !principal.IsTgs(p) {
			t.Errorf("IsTgs(%q) = false", p)
		}
	}
	for _, p := range []api.Principal{{}, make3("krbtg", "", "R"), make3("krbtgtt", "", "R"), make3("KRBTGT", "", "R"), make3(" krbtgt", "", "R"), make3("krbtgt.", "", "R"), make3("", "krbtgt", "krbtgt"), make3("a", "krbtgt", "R")} {
		if principal.IsTgs(p) {
			t.Errorf("IsTgs(%q) = true", p)
		}
	}
}

// P1.6: Parse undoes Format, whatever the default realm is.
func TestParseFormat(t *testing.T) {
	n := 0
	for _, p := range principals(append(parts(), texts("a.", 3)...)) {
		s, e := principal.Format(p)
		if e != api.OK {
			continue
		}
		n++
		for _, realm := range []string{"", "R", "@", "not valid", p.Realm} {
			if q, e := principal.Parse(s, realm); q != p || e != api.OK {
				t.Errorf("Parse(Format(%q), %q) = %q, %d", p, realm, q, e)
			}
		}
	}
	if n == 0 {
		t.Error("no principal was tried")
	}
}

// P1.6: Compare is a total order on all combinations of these texts.
func TestCompareTotal(t *testing.T) {
	l := principals([]string{"", "a", "a\x00", "b", "\xff"})
	for _, a := range l {
		for _, b := range l {
			n := principal.Compare(a, b)
			if n < -1 || n > 1 || (n == 0) != (a == b) || principal.Compare(b, a) != -n {
				t.Fatalf("Compare(%q, %q) = %d, the other way %d", a, b, n, principal.Compare(b, a))
			}
			if n > 0 {
				continue
			}
			for _, c := range l {
				if principal.Compare(b, c) <= 0 && principal.Compare(a, c) > 0 {
					t.Fatalf("%q, %q, %q are not ordered", a, b, c)
				}
			}
		}
	}
}
