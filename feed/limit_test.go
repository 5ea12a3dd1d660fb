package feed

import (
	"math/rand"
	"testing"

	"gripsack/api"
)

// As many bytes as may be, 2^22.
const mostBytes = 4194304

// longest is an archive of mostBytes bytes exactly, and its entries.
func longest(t *testing.T) (string, []api.Entry) {
	t.Helper()
	var l []api.Entry
	for i := range 63 {
		l = append(l, file(rep("n", i+1), rep(string(rune('a'+i%26)), 65536)))
	}
	l = append(l, file("last", rep("z", 31744)))
	s := puts(t, l...)
	if len(s) != mostBytes {
		t.Fatalf("the test makes an archive of %d bytes", len(s))
	}
	return s, l
}

// An archive of as many bytes as may be, in pieces of each size, and what is
// more than that behind it.
func TestLongest(t *testing.T) {
	s, l := longest(t)
	for _, size := range []int{mostBytes, mostBytes - 1, 1 << 21, 65536, 65535, 4096, 513, 512, 1} {
		r := New()
		for at := 0; at < len(s); at += size {
			if e := r.Feed(s[at:min(at+size, len(s))]); e != api.OK {
				t.Fatalf("17.1: Feed of the bytes from %d on is %d", at, e)
			}
		}
		for _, piece := range []string{"x", "\x00", end(), s} {
			takes(t, r, piece, api.ErrLimit)
			takes(t, r, "", api.OK)
		}
		answers(t, r, api.OK, l...)
	}
}

// A piece that would be too much is not there; others may follow.
func TestTooLong(t *testing.T) {
	a, b := file("a", "data"), file("b", "")
	r := New()
	for range 3 {
		takes(t, r, zeros(mostBytes+1), api.ErrLimit)
		takes(t, r, rep("x", 2*mostBytes), api.ErrLimit)
		answers(t, r, api.ErrMore)
	}
	takes(t, r, code(a)+code(b)[:100], api.OK)
	answers(t, r, api.ErrMore, a)
	there := len(code(a)) + 100
	takes(t, r, zeros(mostBytes-there+1), api.ErrLimit)
	takes(t, r, code(b)+zeros(mostBytes), api.ErrLimit)
	answers(t, r, api.ErrMore, a)
	takes(t, r, code(b)[100:], api.OK)
	takes(t, r, zeros(mostBytes), api.ErrLimit)
	answers(t, r, api.ErrMore, a, b)
	// As much as there is room for yet, exactly.
	takes(t, r, zeros(mostBytes-len(code(a)+code(b))), api.OK)
	answers(t, r, api.OK, a, b)
	takes(t, r, "\x00", api.ErrLimit)
	takes(t, r, "", api.OK)
	answers(t, r, api.OK, a, b)
}

// An archive that is too long ends amid: what is there is still read.
func TestNoRoom(t *testing.T) {
	s, l := longest(t)
	s = s[:mostBytes-1024] + code(file("one", rep("d", 1024)))
	r := New()
	takes(t, r, s[:mostBytes], api.OK)
	answers(t, r, api.ErrMore, l...)
	takes(t, r, s[mostBytes:], api.ErrLimit)
	answers(t, r, api.ErrMore, l...)
	takes(t, r, "", api.OK)
	// Pieces that are refused, one by one, let none of them in.
	for range 2000 {
		takes(t, r, "x", api.ErrLimit)
	}
	answers(t, r, api.ErrMore, l...)
}

// Bytes behind the end and behind an error count, too: the limit is named ahead
// of all else.
func TestLimitBehind(t *testing.T) {
	a := file("a", "data")
	for _, c := range []struct {
		s string
		e api.Errno
	}{{end(), api.OK}, {end() + "behind", api.OK}, {rep("x", 512), api.ErrForm}, {own() + own(), api.ErrForm}} {
		r := New()
		takes(t, r, code(a)+c.s, c.e)
		rest := mostBytes - len(code(a)+c.s)
		takes(t, r, rep("x", rest+1), api.ErrLimit)
		takes(t, r, rep("x", rest-1), c.e)
		takes(t, r, "xx", api.ErrLimit)
		takes(t, r, "x", c.e)
		takes(t, r, "x", api.ErrLimit)
		takes(t, r, "", c.e)
		answers(t, r, c.e, a)
	}
}

// Something wrong ahead of very many bytes, which no header is found in.
func TestMuchBehind(t *testing.T) {
	a := file("a", "data")
	s := code(a) + rep("x", mostBytes-len(code(a)))
	r := New()
	for at := 0; at < len(s); at += 512 {
		want := api.OK
		if at >= len(code(a)) {
			want = api.ErrForm
		}
		takes(t, r, s[at:at+512], want)
		answers(t, r, endOf(want), r.Entries()...)
	}
	answers(t, r, api.ErrForm, a)
}

// endOf is what End answers where Feed answers e and the archive has no end.
func endOf(e api.Errno) api.Errno {
	if e == api.OK {
		return api.ErrMore
	}
	return e
}

// Very many records ahead of one entry, in pieces.
func TestManyRecords(t *testing.T) {
	a := file("a", "data")
	random := rand.New(rand.NewSource(17))
	s := rep(shared("mtime", "5", "mtime", "", "path", "q", "path", ""), 3000) + code(a) + code(a) + end()
	r := New()
	for at := 0; at < len(s); {
		to := min(len(s), at+random.Intn(3000))
		takes(t, r, s[at:to], api.OK)
		at = to
	}
	answers(t, r, api.OK, a, a)
}
