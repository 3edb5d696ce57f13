package kdcmessage_test

import (
	"bytes"
	"math/rand"
	"slices"
	"strings"
	"testing"

	"kerbsuite/api"
	"kerbsuite/sample"
)

// checkAll runs what holds for the functions of every codec.
func (c codec[T]) checkAll(t *testing.T) {
	t.Run("Values", c.checkValues)
	t.Run("TextBytes", c.checkTextBytes)
	t.Run("TextLengths", c.checkTextLengths)
	t.Run("Numbers", c.checkNumbers)
	t.Run("Boxed", c.checkBoxed)
	t.Run("Faults", c.checkFaults)
	t.Run("OrderOfErrors", c.checkOrderOfErrors)
	t.Run("DecodeCutShort", c.checkCutShort)
	t.Run("DecodeTrailing", c.checkTrailing)
	t.Run("DecodeChanged", c.checkChanged)
	t.Run("DecodeShifted", c.checkShifted)
	t.Run("DecodeFirstBytes", c.checkFirstBytes)
	t.Run("DecodeFaults", c.checkDecodeFaults)
	t.Run("DecodeLongTexts", c.checkDecodeLongTexts)
	t.Run("EncodingsDiffer", c.checkEncodingsDiffer)
	t.Run("RandomValues", c.checkRandomValues)
	t.Run("RandomTexts", c.checkRandomTexts)
	t.Run("RandomChanges", c.checkRandomChanges)
	t.Run("Arguments", c.checkArguments)
	t.Run("NewMemory", c.checkNewMemory)
	t.Run("SameResults", c.checkSameResults)
}

// The edges of all fields are encoded as they should be, and decoded as they were.
func (c codec[T]) checkValues(t *testing.T) {
	for _, v := range append(c.values(), c.samples()...) {
		c.accepted(t, v)
	}
}

// Every byte in every name, instance and realm, alone and behind another one.
func (c codec[T]) checkTextBytes(t *testing.T) {
	for _, f := range c.texts {
		for i := range 256 {
			for _, front := range []string{"", "x"} {
				v := c.with(func(v *T) { *f.of(v) = front + string([]byte{byte(i)}) })
				bad := i < 33 || i > 126 || strings.IndexByte(f.forbidden, byte(i)) >= 0
				c.refusedIf(t, bad, v, api.ErrName)
			}
		}
	}
}

// Only an instance may be empty, and no text has more than 39 bytes.
func (c codec[T]) checkTextLengths(t *testing.T) {
	for _, f := range c.texts {
		for _, n := range []int{0, 1, 2, 38, 39, 40, 41, 79, 80, 255, 256, 257, 1000} {
			v := c.with(func(v *T) { *f.of(v) = sample.Name(n) })
			c.refusedIf(t, n < f.least || n > 39, v, api.ErrName)
		}
	}
}

// A number that is negative, 0, the greatest one, and one more.
func (c codec[T]) checkNumbers(t *testing.T) {
	for _, f := range c.numbers {
		for _, n := range sample.Outside(f.last) {
			c.refused(t, c.with(func(v *T) { *f.of(v) = n }), api.ErrRange)
		}
		for _, n := range sample.Inside(f.last) {
			c.refusedIf(t, false, c.with(func(v *T) { *f.of(v) = n }), api.OK)
		}
	}
}

// A text of bytes of every length, and whatever its bytes are.
func (c codec[T]) checkBoxed(t *testing.T) {
	if c.boxed == nil {
		return
	}
	for n := range c.maxBoxed + 20 {
		v := c.with(func(v *T) { *c.boxed(v) = noise(n) })
		c.refusedIf(t, n > c.maxBoxed, v, api.ErrTooLong)
	}
	for _, n := range []int{256, 257, 1 << 16, 1<<16 + 1, 1<<16 + 100} {
		v := c.with(func(v *T) { *c.boxed(v) = noise(n) })
		c.refusedIf(t, n > c.maxBoxed, v, api.ErrTooLong)
	}
	for i := range 256 {
		for _, n := range []int{1, 2, 9} {
			v := c.with(func(v *T) { *c.boxed(v) = bytes.Repeat([]byte{byte(i)}, n) })
			c.refusedIf(t, false, v, api.OK)
		}
	}
	c.refusedIf(t, false, c.with(func(v *T) { *c.boxed(v) = []byte{} }), api.OK)
	c.refusedIf(t, false, c.with(func(v *T) { *c.boxed(v) = c.encoding(c.least()) }), api.OK)
}

// Each error alone, of each value.
func (c codec[T]) checkFaults(t *testing.T) {
	for _, f := range c.faults {
		for _, v := range []T{c.good(), c.least(), c.greatest()} {
			f.change(&v)
			c.refused(t, v, f.e)
		}
	}
}

// Of several errors the first one is returned, whichever of them was made first.
func (c codec[T]) checkOrderOfErrors(t *testing.T) {
	for i, first := range c.faults {
		for j, second := range c.faults {
			for k, third := range c.faults {
				v := c.good()
				third.change(&v)
				second.change(&v)
				first.change(&v)
				// Another change of the same field may undo an error of the later classes, but not the last change.
				if want := c.check(v); i < j && i < k && want != first.e {
					t.Errorf("check(%#v) = %d, want %d", v, want, first.e)
				}
				c.refused(t, v, c.check(v))
			}
		}
	}
}

// Nothing that is shorter than an encoding is one, with or without the bytes behind the end of the slice.
func (c codec[T]) checkCutShort(t *testing.T) {
	for _, v := range append(c.samples(), c.inBoth([]T{c.greatest()})...) {
		b := c.encoding(v)
		for n := range b {
			if e := c.try(t, b[:n]); e == api.OK {
				t.Errorf("%q, %d bytes of an encoding, is one itself", b[:n], n)
			}
			c.try(t, b[:n:n])
			// Where only zero bytes were cut off, this is the encoding again.
			c.try(t, c.finish(b[:n:n]))
			c.try(t, slices.Concat(b[:n], make([]byte, len(b)-n)))
		}
	}
}

// Nothing follows an encoding, not even zero bytes or another one, and nothing is in front of it.
func (c codec[T]) checkTrailing(t *testing.T) {
	for _, v := range append(c.samples(), c.inBoth([]T{c.greatest()})...) {
		b := c.encoding(v)
		for _, longer := range sample.Trailed(b) {
			c.fails(t, longer, api.ErrSyntax)
		}
		for i := range 256 {
			c.fails(t, slices.Concat(b, []byte{byte(i)}), api.ErrSyntax)
			if e := c.try(t, slices.Concat([]byte{byte(i)}, b)); e == api.OK {
				t.Errorf("an encoding behind the byte %d is one itself", i)
			}
		}
	}
}

// An encoding in which one byte was changed, to every other value, is not that of the same value.
func (c codec[T]) checkChanged(t *testing.T) {
	for _, v := range c.samples() {
		b := c.encoding(v)
		for i := range b {
			for _, other := range sample.Changed(b, i) {
				c.try(t, other)
				if w, e := c.decode(other); e == api.OK && c.same(v, w) {
					t.Errorf("decode(%q) is the value of another encoding", other)
				}
			}
		}
	}
}

// An encoding without one of its bytes, and with one more.
func (c codec[T]) checkShifted(t *testing.T) {
	for _, v := range c.samples() {
		for _, other := range sample.Shifted(c.join(v)) {
			c.try(t, other)
			c.try(t, c.finish(other))
		}
	}
}

// Texts of 0 to 2 bytes, all first bytes of texts, and what follows none.
func (c codec[T]) checkFirstBytes(t *testing.T) {
	c.try(t, nil)
	c.try(t, []byte{})
	good := c.encoding(c.good())
	for i := range 256 {
		c.try(t, []byte{byte(i)})
		for j := range 256 {
			c.try(t, []byte{byte(i), byte(j)})
			c.try(t, slices.Concat([]byte{byte(i), byte(j)}, good[2:]))
		}
	}
	for n := range 64 {
		c.try(t, make([]byte, n))
		c.try(t, slices.Concat(good[:2], make([]byte, n)))
		c.try(t, slices.Concat(good[:2], bytes.Repeat([]byte{255}, n)))
		c.try(t, slices.Concat(good[:2], bytes.Repeat([]byte{'a'}, n)))
	}
}

// What would be the encoding of a value with an error is none, if its fields show the error.
func (c codec[T]) checkDecodeFaults(t *testing.T) {
	for _, v := range []T{c.good(), c.least(), c.greatest()} {
		for _, f := range c.faults {
			for _, little := range orders {
				bad := c.inOrder(v, little)
				f.change(&bad)
				c.try(t, c.encoding(bad))
			}
		}
	}
	for _, f := range c.texts {
		for _, s := range sample.NoNames() {
			v := c.with(func(v *T) { *f.of(v) = s })
			if c.check(v) == api.OK {
				continue
			}
			for _, little := range orders {
				c.fails(t, c.encoding(c.inOrder(v, little)), api.ErrSyntax)
			}
		}
	}
}

// A name, an instance or a realm that is too long, also one without an end.
func (c codec[T]) checkDecodeLongTexts(t *testing.T) {
	for _, f := range c.texts {
		for _, n := range []int{40, 41, 42, 255, 256, 1000, 5000} {
			b := c.encoding(c.with(func(v *T) { *f.of(v) = sample.Name(n) }))
			c.fails(t, b, api.ErrSyntax)
			for _, end := range []int{len(b) / 2, len(b) - 1, max(0, len(b)-n)} {
				if e := c.try(t, b[:end]); e == api.OK {
					t.Errorf("%q, a part of a text that is too long, is an encoding", b[:end])
				}
			}
		}
	}
}

// Different values have different encodings.
func (c codec[T]) checkEncodingsDiffer(t *testing.T) {
	seen := map[string]T{}
	for _, v := range append(c.values(), c.samples()...) {
		b, _ := c.encode(v)
		if w, found := seen[string(b)]; found && !c.same(v, w) {
			t.Errorf("%#v and %#v have the encoding %q", v, w, b)
		}
		seen[string(b)] = v
	}
}

// Values of all sorts.
func (c codec[T]) checkRandomValues(t *testing.T) {
	r := rand.New(rand.NewSource(9))
	seen := map[api.Errno]int{}
	for range 10000 {
		v := c.random(r)
		e := c.check(v)
		seen[e]++
		c.refusedIf(t, e != api.OK, v, e)
	}
	wanted := []api.Errno{api.OK}
	for _, f := range c.faults {
		wanted = append(wanted, f.e)
	}
	for _, e := range wanted {
		if seen[e] < 50 {
			t.Errorf("only %d values with the error %d", seen[e], e)
		}
	}
}

// G1: texts of all sorts, most of which begin like an encoding.
func (c codec[T]) checkRandomTexts(t *testing.T) {
	r := rand.New(rand.NewSource(10))
	l := c.samples()
	for range 20000 {
		b := randomBytes(r, 300)
		if r.Intn(5) > 0 {
			good := c.encoding(l[r.Intn(len(l))])
			b = append(good[:r.Intn(len(good))], b...)
		}
		c.try(t, b)
		c.try(t, c.finish(b))
	}
}

// Encodings in which several bytes were changed.
func (c codec[T]) checkRandomChanges(t *testing.T) {
	r := rand.New(rand.NewSource(11))
	l := append(c.samples(), c.inBoth([]T{c.greatest()})...)
	taken := 0
	for range 10000 {
		b := c.encoding(l[r.Intn(len(l))])
		for range 1 + r.Intn(3) {
			b[r.Intn(len(b))] = byte(r.Intn(256))
		}
		if c.try(t, b) == api.OK {
			taken++
		}
	}
	if taken == 0 {
		t.Error("none of the texts is an encoding")
	}
}

// G2: no argument is changed, nor what is behind it, and what is behind it is not read.
func (c codec[T]) checkArguments(t *testing.T) {
	for _, v := range c.samples() {
		whole := c.encoding(v)
		for _, b := range [][]byte{whole, whole[:len(whole)-1], slices.Concat(whole, []byte{1}), nil, {4}, whole[:2]} {
			framed := sample.Framed(b)
			store := framed[:cap(framed)]
			before := slices.Clone(store)
			w, e := c.decode(framed)
			if !bytes.Equal(store, before) {
				t.Errorf("decode has changed %q to %q", before, store)
			}
			if x, e2 := c.decode(slices.Clip(slices.Clone(b))); !c.same(w, x) || e != e2 {
				t.Errorf("decode(%q) depends on what is behind it", b)
			}
		}
		if c.boxed == nil {
			continue
		}
		for _, n := range []int{0, 1, 9, c.maxBoxed, c.maxBoxed + 1} {
			framed := sample.Framed(noise(n))
			store := framed[:cap(framed)]
			before := slices.Clone(store)
			*c.boxed(&v) = framed
			c.encode(v)
			if !bytes.Equal(store, before) {
				t.Errorf("encode has changed %q to %q", before, store)
			}
		}
	}
}

// LANGUAGE.md, rule 7: a result shares no memory with an argument, nor with another result.
func (c codec[T]) checkNewMemory(t *testing.T) {
	for _, v := range append(c.samples(), c.inBoth([]T{c.greatest()})...) {
		want := c.encoding(v)
		first, _ := c.encode(v)
		second, _ := c.encode(v)
		clear(first[:cap(first)])
		third, _ := c.encode(v)
		if !bytes.Equal(second, want) || !bytes.Equal(third, want) {
			t.Errorf("the encodings of %#v share memory", v)
		}
		w, _ := c.decode(second)
		x, _ := c.decode(second)
		clear(second[:cap(second)])
		if !c.same(v, w) || !c.same(v, x) {
			t.Errorf("%#v shares memory with the text that it was read from", v)
		}
		if c.boxed == nil {
			continue
		}
		y, _ := c.decode(third)
		clear((*c.boxed(&w))[:cap(*c.boxed(&w))])
		clear((*c.boxed(&y))[:cap(*c.boxed(&y))])
		if !c.same(v, x) || !bytes.Equal(third, want) {
			t.Errorf("%#v shares memory with another result, or with what it was read from", v)
		}
	}
}

// G2: the same arguments give the same results, in whatever order and however often the functions are called.
func (c codec[T]) checkSameResults(t *testing.T) {
	first := map[int][]byte{}
	for range 3 {
		for i, v := range c.values() {
			b, e := c.encode(v)
			if before, found := first[i]; e != api.OK || found && !bytes.Equal(b, before) {
				t.Errorf("encode(%#v) = %q, %d, and before %q", v, b, e, before)
			}
			first[i] = b
			if w, e := c.decode(b); !c.same(v, w) || e != api.OK {
				t.Errorf("decode(%q) = %#v, %d", b, w, e)
			}
			var none T
			c.encode(none)
			c.decode(nil)
		}
	}
}
