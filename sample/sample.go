// Package sample contains what the tests of several layers try functions with, and what they compare results with.
// It is written apart from the layers, which do not use it.
package sample

import (
	"bytes"
	"math"
	"slices"
	"strings"

	"kerbsuite/api"
)

// Keys are numbers: the serial number of a valid key is added to one of these.
const (
	LongTerm api.Key = 1 << 56 // less than all long-term keys
	Session  api.Key = 2 << 56 // less than all session keys
)

// Keys returns valid keys of both classes.
func Keys() []api.Key {
	return []api.Key{LongTerm + 1, LongTerm + 77, LongTerm + 0xffff_ffff, Session + 1, Session + 77, Session + 0xffff_ffff}
}

// NoKeys returns numbers beside the valid keys.
func NoKeys() []api.Key {
	return []api.Key{
		0, 1, 77, 0xffff_ffff,
		LongTerm - 1, LongTerm, LongTerm + 1<<32, LongTerm + 1<<32 + 1,
		Session - 1, Session, Session + 1<<32, Session + 1<<32 + 1, Session + 1<<55 + 1,
		3 << 56, 3<<56 + 1, 66<<56 + 1, 0xff<<56 + 1,
		math.MaxInt64, 1 << 63, 1<<63 + Session + 1, math.MaxUint64,
	}
}

// OtherKeys returns numbers that are not k, among them valid keys.
func OtherKeys(k api.Key) []api.Key {
	l := slices.Concat(Keys(), NoKeys(), []api.Key{k + 1, k - 1, k ^ 3<<56, k ^ 1<<31, k + 1<<32})
	return slices.DeleteFunc(l, func(other api.Key) bool { return other == k })
}

// Name returns a text of n letters that differ from those beside them.
func Name(n int) string {
	var b []byte
	for i := range n {
		b = append(b, 'a'+byte(i%26))
	}
	return string(b)
}

// NoNames returns texts that are not valid names, and mostly not valid instances or realms either.
func NoNames() []string {
	return []string{"", "x.y", "x@y", "@", " ", "x y", "\x7f", "\x80", "é", "\n", Name(40), Name(41), Name(200)}
}

// isText reports whether s has from least to 39 bytes that can be seen, none of them one of forbidden.
func isText(s string, least int, forbidden string) bool {
	bad := func(c byte) bool { return c <= ' ' || c >= 127 || strings.IndexByte(forbidden, c) >= 0 }
	return least <= len(s) && len(s) <= 39 && !slices.ContainsFunc([]byte(s), bad)
}

// IsName reports whether s is a valid name.
func IsName(s string) bool { return isText(s, 1, ".@") }

// IsInstance reports whether s is a valid instance.
func IsInstance(s string) bool { return isText(s, 0, "@") }

// IsPrincipal reports whether p is valid.
func IsPrincipal(p api.Principal) bool {
	return IsName(p.Name) && IsInstance(p.Instance) && isText(p.Realm, 1, "@")
}

// Inside returns numbers from 0 to last.
func Inside(last int) []int {
	return []int{0, 1, 2, 127, 128, last / 2, last - 1, last}
}

// Outside returns numbers that are not from 0 to last, also those whose remainder is.
func Outside(last int) []int {
	unit := last + 1
	return []int{
		-1, -2, -last, -unit, -unit - 1, -unit + 1, -56, -255, -256, -1 << 31, -1 << 32, -1<<32 + 1,
		math.MinInt, math.MinInt + 1, math.MinInt + unit,
		last + 1, last + 2, 2 * unit, 2*unit - 1, 2*unit + 1, 1 << 32, 1<<32 + 1, 1<<32 + 150, 1 << 40, 1<<62 + 1,
		math.MaxInt - unit, math.MaxInt - 1, math.MaxInt,
	}
}

// Numbers returns edges of the numbers of four bytes.
func Numbers() []int {
	return []int{0, 1, 2, 255, 256, 65535, 65536, 1<<24 - 1, 1 << 24, 1<<31 - 1, 1 << 31, 1<<32 - 2, 1<<32 - 1}
}

// Pad returns b with as few zero bytes behind it as make its length a multiple of 8.
func Pad(b []byte) []byte {
	padded := slices.Clone(b)
	for len(padded)%8 != 0 {
		padded = append(padded, 0)
	}
	return padded
}

// Box returns the bytes of a box, valid or not.
func Box(kind int, k api.Key, body []byte) []byte {
	b := []byte{66, byte(kind)}
	for shift := 56; shift >= 0; shift -= 8 {
		b = append(b, byte(k>>shift))
	}
	b = append(b, byte(len(body)>>8), byte(len(body)))
	return append(b, body...)
}

// boxHead is the number of bytes in front of the body of a box.
const boxHead = 12

// NoBoxes returns texts that are no boxes of this kind with this key: the box with this body that is cut short, in which
// the kind, the key or a byte of the head is another one, or that has bytes around it, and texts that are not even like it.
func NoBoxes(kind int, k api.Key, body []byte) [][]byte {
	l := [][]byte{nil, {}, slices.Clone(body), make([]byte, boxHead), make([]byte, 100)}
	for other := range 256 {
		if other != kind {
			l = append(l, Box(other, k, body))
		}
	}
	for _, other := range OtherKeys(k) {
		l = append(l, Box(kind, other, body))
	}
	b := Box(kind, k, body)
	l = append(l, Cut(b)...)
	for _, extra := range [][]byte{{0}, {1}, make([]byte, 8), b} {
		l = append(l, slices.Concat(b, extra), slices.Concat(extra, b))
	}
	for i := range boxHead {
		l = append(l, Changed(b, i)...)
	}
	return l
}

// Cut returns the beginnings of b that are shorter than b.
func Cut(b []byte) [][]byte {
	var l [][]byte
	for n := range b {
		l = append(l, slices.Clone(b[:n]))
	}
	return l
}

// Changed returns b with each other byte at the index at.
func Changed(b []byte, at int) [][]byte {
	var l [][]byte
	for c := range 256 {
		if byte(c) != b[at] {
			l = append(l, slices.Concat(b[:at], []byte{byte(c)}, b[at+1:]))
		}
	}
	return l
}

// Shifted returns b without one of its bytes, and with one more.
func Shifted(b []byte) [][]byte {
	var l [][]byte
	for i := range b {
		l = append(l, slices.Concat(b[:i], b[i+1:]))
		for _, c := range []byte{0, 1, 2, 'a', '.', '@', 255} {
			l = append(l, slices.Concat(b[:i], []byte{c}, b[i:]))
		}
	}
	return l
}

// Trailed returns b with bytes behind it.
func Trailed(b []byte) [][]byte {
	l := [][]byte{slices.Concat(b, b), slices.Concat(b, make([]byte, 8000))}
	for n := 1; n <= 24; n++ {
		l = append(l, slices.Concat(b, make([]byte, n)), slices.Concat(b, bytes.Repeat([]byte{255}, n)))
	}
	return l
}

// WronglyPadded returns the padded b with too few or too many bytes behind it, or with one of them that is not zero.
func WronglyPadded(b []byte) [][]byte {
	var l [][]byte
	right := Pad(b)
	for n := range 24 {
		if len(b)+n != len(right) {
			l = append(l, slices.Concat(b, make([]byte, n)))
		}
	}
	for i := len(b); i < len(right); i++ {
		l = append(l, Changed(right, i)...)
	}
	return l
}

// Framed returns b with spare capacity that contains bytes.
func Framed(b []byte) []byte {
	return slices.Concat(b, []byte("\x01behind it\x00\x00\x00"))[:len(b)]
}

// Text returns a text that is often a valid name; draw returns a number that is less than its argument.
func Text(draw func(n int) int) string {
	b := make([]byte, draw(6))
	if draw(8) == 0 {
		b = make([]byte, draw(45))
	}
	for i := range b {
		b[i] = byte('!' + draw(94))
		if draw(40) == 0 {
			b[i] = byte(draw(256))
		}
	}
	return string(b)
}

// Number returns a number that is mostly from 0 to last; draw returns a number that is less than its argument.
func Number(draw func(n int) int, last int) int {
	switch draw(12) {
	case 0:
		return draw(1<<32)<<32 + draw(1<<32)
	case 1:
		edges := []int{-1, 0, last, last + 1, math.MaxInt, math.MinInt}
		return edges[draw(len(edges))]
	}
	return draw(last + 1)
}
