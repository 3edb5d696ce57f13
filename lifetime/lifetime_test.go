package lifetime_test

import (
	"math"
	"math/big"
	"slices"
	"testing"

	"kerbsuite/api"
	"kerbsuite/lifetime"
)

// whole is the length of the greatest lifetime.
const whole = api.Unit * (api.MaxLife + 1)

// numbers are the edges of times and lifetimes, what is close to them, and the edges of int.
func numbers() []int {
	var l []int
	for _, n := range []int{0, 255, 256, 300, 600, whole, math.MaxInt32, api.MaxTime - whole, api.MaxTime - 300, api.MaxTime, api.MaxTime + 300, api.MaxTime + whole, 2 * api.MaxTime} {
		l = append(l, n-1, n, n+1)
	}
	for _, n := range []int{math.MaxInt, math.MaxInt - 300, math.MaxInt - whole, math.MaxInt - api.MaxTime, math.MaxInt / 2, math.MaxInt / 300} {
		l = append(l, n, n-1, -n, -n-1)
	}
	return append(l, -300, -whole, -api.MaxTime, 1000, 1900, 1<<32+255)
}

func isTime(n int) bool { return n >= 0 && n <= api.MaxTime }

func isLife(n int) bool { return n >= 0 && n <= api.MaxLife }

// exact returns a - b, whatever the numbers are.
func exact(a, b int) *big.Int {
	return new(big.Int).Sub(big.NewInt(int64(a)), big.NewInt(int64(b)))
}

// within reports whether a - b is at most n, without an overflow.
func within(a, b, n int) bool {
	return exact(a, b).Cmp(big.NewInt(int64(n))) <= 0
}

// P2.1: a time and a lifetime.
func TestEnd(t *testing.T) {
	tests := []struct{ issued, life, want int }{
		{0, 0, 300},
		{0, 1, 600},
		{0, api.MaxLife, 76800},
		{1000, 2, 1900},
		{api.MaxTime, 0, 4294967595},
		{api.MaxTime, api.MaxLife, 4295044095},
		{-1, 0, 0},
		{-300, 0, 0},
		{api.MaxTime + 1, 0, 0},
		{0, -1, 0},
		{1000, -1, 0},
		{1000, -2, 0},
		{0, api.MaxLife + 1, 0},
		{-1, -1, 0},
		{math.MaxInt, 0, 0},
		{math.MinInt, 0, 0},
		{math.MaxInt, math.MaxInt, 0},
		{math.MinInt, math.MinInt, 0},
		{0, math.MaxInt, 0},
		{0, math.MinInt, 0},
	}
	for _, x := range tests {
		if n := lifetime.End(x.issued, x.life); n != x.want {
			t.Errorf("End(%d, %d) = %d, want %d", x.issued, x.life, n, x.want)
		}
	}
}

// P2.1: all lifetimes, and what is not one, with all numbers.
func TestEndAll(t *testing.T) {
	lives := numbers()
	for life := range api.MaxLife + 1 {
		lives = append(lives, life)
	}
	for _, issued := range numbers() {
		for _, life := range lives {
			want := 0
			if isTime(issued) && isLife(life) {
				want = issued + 300*life + 300
			}
			if n := lifetime.End(issued, life); n != want {
				t.Errorf("End(%d, %d) = %d, want %d", issued, life, n, want)
			}
		}
	}
}

// P2.1: where the lifetime changes.
func TestFromSeconds(t *testing.T) {
	tests := []struct {
		n, want int
		ok      bool
	}{
		{math.MinInt, 0, false},
		{math.MinInt + 1, 0, false},
		{-api.MaxTime, 0, false},
		{-600, 0, false},
		{-300, 0, false},
		{-1, 0, false},
		{0, 0, false},
		{299, 0, false},
		{300, 0, true},
		{599, 0, true},
		{600, 1, true},
		{899, 1, true},
		{900, 2, true},
		{76499, 253, true},
		{76500, 254, true},
		{76799, 254, true},
		{76800, 255, true},
		{77099, 255, true},
		{77100, 255, true},
		{api.MaxTime, 255, true},
		{math.MaxInt, 255, true},
	}
	for _, x := range tests {
		if n, ok := lifetime.FromSeconds(x.n); n != x.want || ok != x.ok {
			t.Errorf("FromSeconds(%d) = %d, %v, want %d, %v", x.n, n, ok, x.want, x.ok)
		}
	}
}

// P2.1: each number of seconds to beyond the greatest lifetime, by trying all lifetimes.
func TestFromSecondsAll(t *testing.T) {
	for n := -700; n < whole+700; n++ {
		want, found := 0, false
		for life := range api.MaxLife + 1 {
			if 300*(life+1) <= n {
				want, found = life, true
			}
		}
		if life, ok := lifetime.FromSeconds(n); life != want || ok != found {
			t.Fatalf("FromSeconds(%d) = %d, %v, want %d, %v", n, life, ok, want, found)
		}
	}
}

// P2.2: ordinary arguments and edges.
func TestGrant(t *testing.T) {
	tests := []struct {
		now, want int
		ends      []int
		life      int
		ok        bool
	}{
		{1000, 255, []int{1900}, 2, true},
		{1000, 255, []int{1899}, 1, true},
		{1000, 255, []int{1901}, 2, true},
		{1000, 2, []int{1900}, 2, true},
		{1000, 1, []int{1900}, 1, true},
		{1000, 0, []int{1900}, 0, true},
		{1000, 255, []int{1300}, 0, true},
		{1000, 255, []int{1299}, 0, false},
		{1000, 255, []int{1000}, 0, false},
		{1000, 255, []int{0}, 0, false},
		{1000, 255, []int{-1}, 0, false},
		// the least end counts, wherever it stands
		{1000, 255, []int{1900, 2200, 2500}, 2, true},
		{1000, 255, []int{2200, 1900, 2500}, 2, true},
		{1000, 255, []int{2500, 2200, 1900}, 2, true},
		{1000, 255, []int{1900, 1900}, 2, true},
		{1000, 255, []int{1900, 1299}, 0, false},
		{1000, 255, []int{1299, 1900}, 0, false},
		// no ends
		{1000, 255, nil, 255, true},
		{1000, 255, []int{}, 255, true},
		{1000, 7, nil, 7, true},
		{1000, 0, nil, 0, true},
		{0, 0, nil, 0, true},
		{api.MaxTime, 255, nil, 255, true},
		// want is any number
		{1000, 256, nil, 255, true},
		{1000, 1 << 32, nil, 255, true},
		{1000, math.MaxInt, nil, 255, true},
		{1000, math.MaxInt, []int{1900}, 2, true},
		{1000, -1, nil, 0, false},
		{1000, -1, []int{1900}, 0, false},
		{1000, math.MinInt, nil, 0, false},
		// an end is any number
		{1000, 255, []int{math.MaxInt}, 255, true},
		{0, 255, []int{math.MaxInt}, 255, true},
		{0, 255, []int{math.MinInt}, 0, false},
		{1000, 255, []int{math.MinInt}, 0, false},
		{api.MaxTime, 255, []int{math.MinInt}, 0, false},
		{api.MaxTime, 255, []int{math.MinInt + api.MaxTime - 1}, 0, false},
		{api.MaxTime, 255, []int{math.MaxInt, math.MinInt}, 0, false},
		// an end behind the greatest time
		{api.MaxTime, 255, []int{api.MaxTime}, 0, false},
		{api.MaxTime, 255, []int{api.MaxTime + 299}, 0, false},
		{api.MaxTime, 255, []int{api.MaxTime + 300}, 0, true},
		{api.MaxTime, 255, []int{api.MaxTime + whole}, 255, true},
		{api.MaxTime, 255, []int{api.MaxTime + whole - 1}, 254, true},
		// now is not a time
		{-1, 255, nil, 0, false},
		{-1, 255, []int{1900}, 0, false},
		{-1000, 255, []int{math.MaxInt}, 0, false},
		{api.MaxTime + 1, 255, nil, 0, false},
		{api.MaxTime + 1, 255, []int{math.MaxInt}, 0, false},
		{math.MaxInt, 255, []int{math.MinInt}, 0, false},
		{math.MaxInt, 255, []int{math.MaxInt}, 0, false},
		{math.MinInt, 255, []int{math.MinInt}, 0, false},
		{math.MinInt, 255, nil, 0, false},
	}
	for _, x := range tests {
		if life, ok := lifetime.Grant(x.now, x.want, x.ends); life != x.life || ok != x.ok {
			t.Errorf("Grant(%d, %d, %d) = %d, %v, want %d, %v", x.now, x.want, x.ends, life, ok, x.life, x.ok)
		}
	}
}

// grantByHand tries all lifetimes.
func grantByHand(now, want int, ends []int) (int, bool) {
	if !isTime(now) {
		return 0, false
	}
	for life := api.MaxLife; life >= 0; life-- {
		late := func(end int) bool { return now+300*(life+1) > end }
		if life <= want && !slices.ContainsFunc(ends, late) {
			return life, true
		}
	}
	return 0, false
}

// endings are lists of up to three ends around the time now.
func endings(now int) [][]int {
	l := []int{math.MinInt, -1, 0, math.MaxInt}
	if isTime(now) {
		for _, n := range []int{0, 299, 300, 301, 599, 600, 1500, 70000, whole - 1, whole, whole + 300} {
			l = append(l, now+n)
		}
	}
	all := [][]int{nil, {}}
	for _, a := range l {
		all = append(all, []int{a})
		for _, b := range l {
			all = append(all, []int{a, b}, []int{math.MaxInt, a, b})
		}
	}
	return all
}

// P2.2: all combinations of edges, by trying all lifetimes.
func TestGrantAll(t *testing.T) {
	wants := []int{math.MinInt, -1, 0, 1, 2, 100, 254, 255, 256, math.MaxInt}
	for _, now := range numbers() {
		for _, ends := range endings(now) {
			for _, want := range wants {
				life, ok := lifetime.Grant(now, want, ends)
				if l, found := grantByHand(now, want, ends); life != l || ok != found {
					t.Fatalf("Grant(%d, %d, %d) = %d, %v, want %d, %v", now, want, ends, life, ok, l, found)
				}
			}
		}
	}
}

// P2.2: the list of ends is not modified, nor is the memory behind it.
func TestGrantPure(t *testing.T) {
	ends := []int{2500, 1900, 2200, 1, 2}
	lifetime.Grant(1000, 255, ends[:3])
	if !slices.Equal(ends, []int{2500, 1900, 2200, 1, 2}) {
		t.Errorf("Grant modifies the list of ends: %d", ends)
	}
}

// P2.3: the difference counts in both directions, and the skew itself is allowed.
func TestNear(t *testing.T) {
	tests := []struct {
		a, b, skew int
		want       bool
	}{
		{0, 0, 0, true},
		{1000, 1000, 0, true},
		{1000, 1001, 0, false},
		{1001, 1000, 0, false},
		{1000, 1300, 300, true},
		{1300, 1000, 300, true},
		{1000, 1301, 300, false},
		{1301, 1000, 300, false},
		{0, api.MaxTime, api.MaxTime, true},
		{api.MaxTime, 0, api.MaxTime, true},
		{0, api.MaxTime, api.MaxTime - 1, false},
		{api.MaxTime, 0, api.MaxTime - 1, false},
		{api.MaxTime, api.MaxTime, 0, true},
		// arguments outside
		{-1, -1, 0, false},
		{-1, 0, 300, false},
		{0, -1, 300, false},
		{api.MaxTime + 1, api.MaxTime, 300, false},
		{api.MaxTime, api.MaxTime + 1, 300, false},
		{api.MaxTime + 1, api.MaxTime + 1, 300, false},
		{0, 0, -1, false},
		{0, 0, api.MaxTime + 1, false},
		{0, 0, math.MaxInt, false},
		{0, 0, math.MinInt, false},
		{math.MaxInt, math.MaxInt, 300, false},
		{math.MinInt, math.MinInt, 300, false},
		{math.MinInt, math.MaxInt, 300, false},
		{math.MaxInt, math.MinInt, 300, false},
		{math.MinInt, 0, 300, false},
		{0, math.MinInt, 300, false},
	}
	for _, x := range tests {
		if got := lifetime.Near(x.a, x.b, x.skew); got != x.want {
			t.Errorf("Near(%d, %d, %d) = %v", x.a, x.b, x.skew, got)
		}
	}
}

// P2.3: all combinations of edges.
func TestNearAll(t *testing.T) {
	l := numbers()
	for _, a := range l {
		for _, b := range l {
			for _, skew := range l {
				want := isTime(a) && isTime(b) && isTime(skew) && within(a, b, skew) && within(b, a, skew)
				if got := lifetime.Near(a, b, skew); got != want {
					t.Fatalf("Near(%d, %d, %d) = %v", a, b, skew, got)
				}
			}
		}
	}
}

// P2.4: ordinary arguments, edges and the order of the errors.
func TestState(t *testing.T) {
	const far = api.MaxTime
	tests := []struct {
		issued, life, now, skew int
		want                    api.Errno
	}{
		{1000, 0, 1000, 0, api.OK},
		{1000, 0, 1300, 0, api.OK},
		{1000, 0, 1301, 0, api.ErrExpired},
		{1000, 0, 999, 0, api.ErrNotYet},
		{1000, 0, 1600, 300, api.OK},
		{1000, 0, 1601, 300, api.ErrExpired},
		{1000, 0, 700, 300, api.OK},
		{1000, 0, 699, 300, api.ErrNotYet},
		{1000, 2, 1900, 0, api.OK},
		{1000, 2, 1901, 0, api.ErrExpired},
		{0, 255, 76800, 0, api.OK},
		{0, 255, 76801, 0, api.ErrExpired},
		{0, 0, 0, 0, api.OK},
		{far, 255, far, 0, api.OK},
		{far, 0, far, far, api.OK},
		{far, 0, 0, far, api.OK},
		{far, 0, 0, far - 1, api.ErrNotYet},
		{0, 0, far, far, api.OK},
		{0, 0, far, far - 300, api.OK},
		{0, 0, far, far - 301, api.ErrExpired},
		{far - 300, 0, far, 0, api.OK},
		{far - 301, 0, far, 0, api.ErrExpired},
		// out of range
		{-1, 0, 1000, 0, api.ErrRange},
		{far + 1, 0, far, 300, api.ErrRange},
		{1000, 0, -1, 2000, api.ErrRange},
		{far, 0, far + 1, 0, api.ErrRange},
		{1000, -1, 1000, 0, api.ErrRange},
		{1000, 256, 1000, 0, api.ErrRange},
		{1000, 0, 1000, -1, api.ErrRange},
		{1000, 0, 1000, far + 1, api.ErrRange},
		{math.MaxInt, 0, 1000, 0, api.ErrRange},
		{math.MinInt, 0, 1000, 0, api.ErrRange},
		{1000, math.MaxInt, 1000, 0, api.ErrRange},
		{1000, math.MinInt, 1000, 0, api.ErrRange},
		{1000, 0, math.MaxInt, 0, api.ErrRange},
		{1000, 0, math.MinInt, 0, api.ErrRange},
		{1000, 0, 1000, math.MaxInt, api.ErrRange},
		{1000, 0, 1000, math.MinInt, api.ErrRange},
		// ErrRange comes before ErrNotYet and ErrExpired
		{far + 1, 0, 0, 0, api.ErrRange},
		{1000, -1, 0, 0, api.ErrRange},
		{1000, 256, 0, 0, api.ErrRange},
		{1000, 0, 0, -1, api.ErrRange},
		{1000, 0, -1, 0, api.ErrRange},
		{-1, 0, far, 0, api.ErrRange},
		{1000, -1, far, 0, api.ErrRange},
		{1000, 256, far, 0, api.ErrRange},
		{1000, 0, far, -1, api.ErrRange},
		{1000, 0, far + 1, 0, api.ErrRange},
		{1000, -4, 500, 0, api.ErrRange},
	}
	for _, x := range tests {
		if e := lifetime.State(x.issued, x.life, x.now, x.skew); e != x.want {
			t.Errorf("State(%d, %d, %d, %d) = %d, want %d", x.issued, x.life, x.now, x.skew, e, x.want)
		}
	}
}

// stateByHand computes with exact numbers.
func stateByHand(issued, life, now, skew int) api.Errno {
	if !isTime(issued) || !isTime(now) || !isLife(life) || !isTime(skew) {
		return api.ErrRange
	}
	if !within(issued, now, skew) {
		return api.ErrNotYet
	}
	if !within(now, issued+300*(life+1), skew) {
		return api.ErrExpired
	}
	return api.OK
}

// P2.4: all combinations of edges.
func TestStateAll(t *testing.T) {
	lives := []int{math.MinInt, -2, -1, 0, 1, 100, 254, 255, 256, math.MaxInt}
	l := numbers()
	for _, issued := range l {
		for _, now := range l {
			for _, skew := range l {
				for _, life := range lives {
					want := stateByHand(issued, life, now, skew)
					if e := lifetime.State(issued, life, now, skew); e != want {
						t.Fatalf("State(%d, %d, %d, %d) = %d, want %d", issued, life, now, skew, e, want)
					}
				}
			}
		}
	}
}

// P2.5: a greater want never grants less.
func TestGreaterWant(t *testing.T) {
	for _, now := range []int{-1, 0, 1000, api.MaxTime, api.MaxTime + 1} {
		for _, ends := range endings(now) {
			last, had := 0, false
			for want := -2; want < api.MaxLife+3; want++ {
				life, ok := lifetime.Grant(now, want, ends)
				if life < last || had && !ok {
					t.Fatalf("Grant(%d, %d, %d) = %d, %v, but %d, %v for less", now, want, ends, life, ok, last, had)
				}
				last, had = life, ok
			}
		}
	}
}

// P2.5: a further end never grants more.
func TestFurtherEnd(t *testing.T) {
	for _, now := range []int{0, 1000, api.MaxTime} {
		for _, ends := range endings(now) {
			for _, want := range []int{-1, 0, 3, 255, 256} {
				life, ok := lifetime.Grant(now, want, ends)
				for _, end := range []int{math.MinInt, 0, now, now + 300, now + 1000, now + whole, math.MaxInt} {
					l, found := lifetime.Grant(now, want, append(slices.Clone(ends), end))
					if l > life || found && !ok {
						t.Fatalf("Grant(%d, %d, %d) = %d, %v, but %d, %v with the end %d", now, want, ends, life, ok, l, found, end)
					}
				}
			}
		}
	}
}

// P2.5: a ticket that State finds in order is neither too new nor too old.
func TestStateBounds(t *testing.T) {
	n := 0
	l := numbers()
	for _, issued := range l {
		for _, now := range l {
			for _, skew := range l {
				for _, life := range []int{0, 1, 254, 255} {
					if lifetime.State(issued, life, now, skew) != api.OK {
						continue
					}
					n++
					if issued-skew > now || now > lifetime.End(issued, life)+skew {
						t.Fatalf("State(%d, %d, %d, %d) = OK", issued, life, now, skew)
					}
				}
			}
		}
	}
	if n == 0 {
		t.Error("no ticket is in order")
	}
}

// P2.5: a ticket with a granted lifetime ends no later than the ends, and one unit more would be too long or more than wanted.
func TestGrantedEnd(t *testing.T) {
	for _, now := range []int{0, 1000, api.MaxTime} {
		for _, ends := range endings(now) {
			life, ok := lifetime.Grant(now, 200, ends)
			if !ok {
				continue
			}
			late := func(end int) bool { return lifetime.End(now, life) > end }
			later := func(end int) bool { return lifetime.End(now, life+1) > end }
			if life > 200 || slices.ContainsFunc(ends, late) || life < 200 && !slices.ContainsFunc(ends, later) {
				t.Errorf("Grant(%d, 200, %d) = %d", now, ends, life)
			}
		}
	}
}
