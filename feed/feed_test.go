package feed

import (
	"math"
	"reflect"
	"testing"

	"gripsack/api"
	"gripsack/reel"
	"gripsack/tape"
)

// puts is the archive of entries.
func puts(t *testing.T, l ...api.Entry) string {
	t.Helper()
	s, e := tape.Put(l)
	if e != api.OK {
		t.Fatalf("the test has entries that are not valid: %s", cut(l))
	}
	return s
}

// answers tells a fault if a Reader doesn't answer these entries, and this
// result at its end.
func answers(t *testing.T, r *Reader, bad api.Errno, want ...api.Entry) {
	t.Helper()
	if l := r.Entries(); !same(l, want) {
		t.Errorf("17.1: Entries are %s; want %s", cut(l), cut(want))
	}
	l, e := r.End()
	if e != bad || e == api.OK && !same(l, want) || e != api.OK && l != nil {
		t.Errorf("17.1: End is %s, %d; want %d", cut(l), e, bad)
	}
}

// takes tells a fault if Feed of a piece answers another error.
func takes(t *testing.T, r *Reader, s string, want api.Errno) {
	t.Helper()
	if e := r.Feed(s); e != want {
		t.Errorf("17.1: Feed of %s is %d; want %d", cut(s), e, want)
	}
}

func TestNew(t *testing.T) {
	r := New()
	answers(t, r, api.ErrMore)
	answers(t, r, api.ErrMore)
	for range 3 {
		takes(t, r, "", api.OK)
		answers(t, r, api.ErrMore)
	}
	// Each is one of its own.
	takes(t, r, end(), api.OK)
	answers(t, r, api.OK)
	answers(t, New(), api.ErrMore)
	says(t, "", api.ErrMore)
	says(t, end(), api.OK)
}

// The chapter's examples.
func TestExamples(t *testing.T) {
	l := all()
	s := puts(t, l...)
	r := New()
	takes(t, r, s[:700], api.OK)
	takes(t, r, s[700:], api.OK)
	answers(t, r, api.OK, l...)
}

// An entry of each kind, with and without records.
func TestKinds(t *testing.T) {
	for _, e := range all() {
		says(t, puts(t, e), api.OK, e)
		says(t, puts(t, e, file("b", ""), e), api.OK, e, file("b", ""), e)
		says(t, code(e), api.ErrMore, e)
		says(t, code(e)[:len(code(e))-1], api.ErrMore)
	}
	says(t, puts(t, all()...), api.OK, all()...)
	for _, n := range []int{0, 1, 511, 512, 513, 1200, 65535, 65536} {
		a := file("a", rep("d", n))
		says(t, puts(t, a, file("b", "")), api.OK, a, file("b", ""))
	}
}

// Pieces of no bytes change nothing, wherever they stand.
func TestEmptyPieces(t *testing.T) {
	s := puts(t, file("a", "data"), full(api.KDir)) + "behind"
	w := truthOf(s)
	r := New()
	for at := 0; at <= len(s); at += 50 {
		w.fed(t, r, max(at-50, 0), at)
		w.fed(t, r, at, at)
		w.fed(t, r, at, at)
	}
	bad := New()
	takes(t, bad, rep("x", 511), api.OK)
	takes(t, bad, "", api.OK)
	takes(t, bad, "x", api.ErrForm)
	takes(t, bad, "", api.ErrForm)
	answers(t, bad, api.ErrForm)
}

// An archive cut at every place: what is there then is known from its parts.
func TestCuts(t *testing.T) {
	a, b, c, d := file("a", "data"), file("b", rep("d", 1200)), full(api.KDir), file("d", "")
	s, ends := "", []int{}
	for _, part := range []string{code(a), own("mtime", "5") + code(b), shared("mtime", "6") + code(c), own() + shared() + code(d)} {
		s += part
		ends = append(ends, len(s))
	}
	s += end()
	l := []api.Entry{a, timed(b, 5), c, timed(d, 6)}
	for n := range len(s) {
		there := 0
		for _, at := range ends {
			if n >= at {
				there++
			}
		}
		r := New()
		takes(t, r, s[:n], api.OK)
		answers(t, r, api.ErrMore, l[:there]...)
		// The rest, as a piece of its own, makes it whole.
		takes(t, r, s[n:], api.OK)
		answers(t, r, api.OK, l...)
	}
	says(t, s, api.OK, l...)
}

// What stands behind the end says nothing.
func TestBehind(t *testing.T) {
	a := file("a", "data")
	for _, behind := range []string{"\x00", "x", zeros(511), zeros(512), zeros(4096), rep("x", 512), rep("x", 1300), code(file("b", "")), own() + own(), puts(t, file("b", "")), block(api.Header{Name: "h", Size: 65537})} {
		says(t, puts(t)+behind, api.OK)
		says(t, puts(t, a)+behind, api.OK, a)
	}
	r := New()
	takes(t, r, puts(t, a), api.OK)
	for _, piece := range []string{code(file("b", "")), rep("x", 512), "x", "", end(), "\xff"} {
		takes(t, r, piece, api.OK)
		answers(t, r, api.OK, a)
	}
}

// One block of noughts is half an end: nothing but another may stand behind it.
func TestHalfEnd(t *testing.T) {
	a, b := file("a", "data"), file("b", "")
	for _, ahead := range []struct {
		s string
		l []api.Entry
	}{{"", nil}, {code(a), []api.Entry{a}}, {code(a) + code(b), []api.Entry{a, b}}, {shared("mtime", "5"), nil}} {
		says(t, ahead.s+zeros(512), api.ErrMore, ahead.l...)
		says(t, ahead.s+zeros(1023), api.ErrMore, ahead.l...)
		says(t, ahead.s+zeros(512)+code(b), api.ErrForm, ahead.l...)
		says(t, ahead.s+zeros(512)+code(b)+end(), api.ErrForm, ahead.l...)
		says(t, ahead.s+zeros(512)+own()+code(b)+end(), api.ErrForm, ahead.l...)
		says(t, ahead.s+zeros(1023)+"x"+end(), api.ErrForm, ahead.l...)
		says(t, ahead.s+zeros(512)+rep("x", 511), api.ErrMore, ahead.l...)
		says(t, ahead.s+end()+code(b), api.OK, ahead.l...)
	}
}

// An `x` without an entry yet is no part of what is there.
func TestWaiting(t *testing.T) {
	a, b := file("a", "data"), file("b", "")
	for _, x := range []string{own(), own("mtime", "5"), own("mtime", "5") + shared(), own("path", "q") + shared("mtime", "6") + shared()} {
		says(t, x, api.ErrMore)
		says(t, code(a)+x, api.ErrMore, a)
		says(t, code(a)+x+zeros(512), api.ErrMore, a)
		says(t, code(a)+x+end(), api.ErrForm, a)
		says(t, code(a)+x+end()+code(b), api.ErrForm, a)
		says(t, code(a)+x+x, api.ErrForm, a)
		says(t, code(a)+x+x+code(b)+end(), api.ErrForm, a)
		says(t, code(a)+x+code(b)[:511], api.ErrMore, a)
	}
	says(t, code(a)+own("mtime", "5")+code(b)+own("mtime", "6"), api.ErrMore, a, timed(b, 5))
	says(t, code(a)+own("mtime", "5")+code(b)+own("mtime", "6")+code(b)+end(), api.OK, a, timed(b, 5), timed(b, 6))
	says(t, code(a)+own("mtime", "x")+code(b)+end(), api.ErrForm, a)
	says(t, code(a)+own("mtime", "x"), api.ErrMore, a)
}

// The records of a `g` are said of the entries behind it, whichever pieces they
// come in.
func TestShared(t *testing.T) {
	a, b, c := file("a", "data"), file("b", ""), file("c", rep("d", 513))
	x, y, z := code(a), code(b), code(c)
	says(t, x+shared("mtime", "5")+y+z, api.ErrMore, a, timed(b, 5), timed(c, 5))
	says(t, shared("mtime", "5")+x+shared("mtime", "6")+y+own("mtime", "7")+z+y+end(), api.OK, timed(a, 5), timed(b, 6), timed(c, 7), timed(b, 6))
	says(t, shared("mtime", "5")+x+shared("mtime", "")+y+end(), api.OK, timed(a, 5), b)
	says(t, x+own("mtime", "6")+shared("mtime", "5")+y+z+end(), api.OK, a, timed(b, 6), timed(c, 5))
	says(t, x+shared()+shared()+y+shared("mtime", "5"), api.ErrMore, a, b)
	// What says nothing of an entry is wrong only where there is one.
	says(t, x+shared("mtime", "x"), api.ErrMore, a)
	says(t, x+shared("mtime", "x")+end(), api.OK, a)
	says(t, x+shared("mtime", "x")+y+z+end(), api.ErrForm, a)
	says(t, x+y+shared("path", "/")+z[:512], api.ErrMore, a, b)
	says(t, x+y+shared("path", "/")+z, api.ErrForm, a, b)
}

// Something wrong, early and late: the entries ahead of it are there.
func TestWrong(t *testing.T) {
	a, b, c := file("a", "data"), file("b", ""), file("c", rep("d", 513))
	for _, wrong := range []struct {
		s string
		e api.Errno
	}{
		{rep("x", 512), api.ErrForm},
		{"BAD" + zeros(509), api.ErrForm},
		{block(api.Header{Name: "n", Type: '7'}), api.ErrForm},
		{block(api.Header{Name: "/"}), api.ErrForm},
		{block(api.Header{Name: "n", Size: 65537}), api.ErrLimit},
		{block(api.Header{Name: "n", Type: 'x', Size: 65537}), api.ErrLimit},
		{block(api.Header{Name: "n", Type: 'g', Size: math.MaxInt}), api.ErrLimit},
		{records('x', "05 =\n"), api.ErrForm},
		{records('g', "x"), api.ErrForm},
		{own("uid", "07") + code(b), api.ErrForm},
		{shared("uid", "07") + code(b), api.ErrForm},
		{own() + own(), api.ErrForm},
		{zeros(512) + rep("x", 512), api.ErrForm},
		{block(api.Header{Name: "n", Size: 1}) + rep("x", 512), api.ErrForm},
		{block(api.Header{Name: "n", Type: 'x', Size: 6}) + lines("a", "b") + "x" + zeros(505), api.ErrForm},
	} {
		for _, ahead := range []struct {
			s string
			l []api.Entry
		}{{"", nil}, {code(a), []api.Entry{a}}, {code(a) + code(b) + code(c), []api.Entry{a, b, c}}, {shared("mtime", "5") + code(a), []api.Entry{timed(a, 5)}}} {
			says(t, ahead.s+wrong.s, wrong.e, ahead.l...)
			says(t, ahead.s+wrong.s+code(c)+end(), wrong.e, ahead.l...)
			says(t, ahead.s+wrong.s[:len(wrong.s)-1], errorShort(wrong.s, wrong.e), ahead.l...)
		}
	}
}

// errorShort is the error of something wrong that lacks its last byte: that is
// known already where a header alone is too great, or its data are.
func errorShort(s string, e api.Errno) api.Errno {
	if len(s) > 512 && e == api.ErrLimit {
		return e
	}
	return api.ErrMore
}

// A byte turned in a header, in what fills data, in records and in the end.
func TestTurned(t *testing.T) {
	a, b, c := file("a", "data"), file("b", rep("d", 600)), file("c", "")
	parts := []string{code(a), own("mtime", "5"), code(b), shared("mtime", "6"), code(c), end()}
	there := [][]api.Entry{{}, {a}, {a}, {a, timed(b, 5)}, {a, timed(b, 5)}, {a, timed(b, 5), timed(c, 6)}}
	for i, part := range parts {
		ahead, behind := "", ""
		for j, other := range parts {
			if j < i {
				ahead += other
			} else if j > i {
				behind += other
			}
		}
		// The number of a record, and what fills the last block.
		for _, at := range []int{0, 100, 150, 156, 257, 400, 511, 512, len(part) - 1} {
			if at >= len(part) || at == 512 && i != 1 && i != 3 && i != 5 {
				continue
			}
			s := ahead + turned(part, at, 1) + behind
			says(t, s, api.ErrForm, there[i]...)
			says(t, s[:(len(ahead)+at)/512*512], api.ErrMore, there[i]...)
		}
	}
	// A byte of data turned is another byte of data.
	other := b
	other.Data = "e" + b.Data[1:]
	says(t, code(a)+turned(code(b), 512, 1)+end(), api.OK, a, other)
}

// An error that Feed has returned stays, whatever comes.
func TestFaultStays(t *testing.T) {
	a := file("a", "data")
	for _, wrong := range []struct {
		s string
		e api.Errno
	}{{rep("x", 512), api.ErrForm}, {block(api.Header{Name: "n", Size: 65537}), api.ErrLimit}, {own() + end(), api.ErrForm}, {own() + own(), api.ErrForm}} {
		r := New()
		takes(t, r, code(a), api.OK)
		takes(t, r, wrong.s, wrong.e)
		for _, piece := range []string{"", "x", code(a), zeros(512), end(), puts(t, a), rep("x", 512), own()} {
			takes(t, r, piece, wrong.e)
			answers(t, r, wrong.e, a)
		}
	}
}

// As many entries as may be, and one more.
func TestMany(t *testing.T) {
	var l []api.Entry
	s := ""
	for i := range 256 {
		l = append(l, file(rep("n", 1+i%99), rep("d", i%3)))
		s += code(l[i])
	}
	a := code(file("a", "data"))
	for _, c := range []struct {
		behind string
		e      api.Errno
	}{{"", api.ErrMore}, {end(), api.OK}, {a[:511], api.ErrMore}, {a[:512], api.ErrLimit}, {a + end(), api.ErrLimit}, {own(), api.ErrMore}, {own() + end(), api.ErrForm}, {own() + a, api.ErrLimit}, {shared() + end(), api.OK}, {end() + a, api.OK}, {rep("x", 512), api.ErrForm}, {zeros(512) + a, api.ErrForm}} {
		r := New()
		for at := 0; at < len(s); at += 700 {
			takes(t, r, s[at:min(at+700, len(s))], api.OK)
			answers(t, r, api.ErrMore, r.Entries()...)
		}
		answers(t, r, api.ErrMore, l...)
		r.Feed(c.behind)
		answers(t, r, c.e, l...)
		whole := New()
		whole.Feed(s + c.behind)
		answers(t, whole, c.e, l...)
	}
}

func TestNil(t *testing.T) {
	var r *Reader
	for _, s := range []string{"", "x", end(), rep("x", 512), zeros(4194304), zeros(4194305)} {
		takes(t, r, s, api.ErrNone)
		answers(t, r, api.ErrNone)
	}
}

// scribble writes over a list and its spare capacity, and appends to it.
func scribble[T any](l []T, with T) {
	l = l[:cap(l)]
	for i := range l {
		l[i] = with
	}
	_ = append(l[:len(l)/2], with, with)
}

// scribbleAll writes over all that an answer has.
func scribbleAll(l []api.Entry) {
	for _, e := range l {
		scribble(e.Meta.Acl, api.Ace{Tag: 77})
		scribble(e.Meta.Default, api.Ace{Tag: 78})
		scribble(e.Meta.Xattrs, api.Xattr{Name: "scribbled"})
	}
	scribble(l, api.Entry{Path: "scribbled"})
}

// R3: what answers are changed to changes no other answer, and not the Reader.
func TestNewMemory(t *testing.T) {
	lists := shared("SCHILY.acl.access", "u::rw-,g::---,o::---", "SCHILY.xattr.name", "value")
	a := code(file("a", "data"))
	for _, s := range []string{puts(t, all()...), lists + a + a + own("path", "b") + a + a + a + end()} {
		want, _ := tape.Get(s)
		r := New()
		var early [][]api.Entry
		var was [][]api.Entry
		for at := range len(s) {
			takes(t, r, s[at:at+1], api.OK)
			if at%400 == 0 || at == len(s)-1 {
				early = append(early, r.Entries())
				was = append(was, copied(r.Entries()))
				scribbleAll(r.Entries())
			}
		}
		for range 3 {
			answers(t, r, api.OK, want...)
			l, _ := r.End()
			scribbleAll(l)
			answers(t, r, api.OK, want...)
			scribbleAll(r.Entries())
		}
		for i, l := range early {
			if !same(l, was[i]) {
				t.Errorf("R3: Entries that were answered before are now %s; they were %s", cut(l), cut(was[i]))
			}
		}
		// The lists of one answer share no memory, either.
		l := r.Entries()
		for i, e := range l {
			scribble(e.Meta.Acl, api.Ace{Tag: 77})
			scribble(e.Meta.Default, api.Ace{Tag: 78})
			scribble(e.Meta.Xattrs, api.Xattr{Name: "scribbled"})
			if !same(l[i+1:], want[i+1:]) {
				t.Fatalf("R3: entries of one answer share memory: %s", cut(l))
			}
		}
	}
}

// R5: two Readers in turn, each as if there were no other.
func TestTwoReaders(t *testing.T) {
	a, b, c := file("a", "data"), file("b", rep("d", 700)), full(api.KDir)
	archives := []string{puts(t, a, b, c), code(c) + rep("x", 512) + code(a) + end(), shared("mtime", "5") + code(b) + own("mtime", "6") + code(a) + end(), code(a) + own() + own() + code(b), ""}
	for _, s := range archives {
		for _, other := range archives {
			v, w := truthOf(s), truthOf(other)
			q, r := New(), New()
			for at := 0; at < max(len(s), len(other)); at += 100 {
				v.fed(t, q, min(at, len(s)), min(at+100, len(s)))
				w.fed(t, r, min(at, len(other)), min(at+100, len(other)))
				v.asked(t, q, min(at+100, len(s)))
			}
		}
	}
}

// R1: the same pieces, the same answers; asking changes nothing.
func TestAskedOften(t *testing.T) {
	s := code(file("a", "data")) + own("mtime", "5") + code(small(api.KFile)) + shared() + code(file("b", "")) + end()
	often, never := New(), New()
	for at := 0; at < len(s); at += 77 {
		piece := s[at:min(at+77, len(s))]
		takes(t, often, piece, never.Feed(piece))
		for range 3 {
			often.End()
			often.Entries()
		}
	}
	l, e := never.End()
	answers(t, often, e, l...)
	if e != api.OK || len(l) != 3 {
		t.Errorf("the test reads %s, %d", cut(l), e)
	}
}

// The way of the chapter: missing bytes panic inside, and nothing else does.
func TestWay(t *testing.T) {
	ends := func(s string) {
		t.Helper()
		_, want := tape.Get(s)
		r := New()
		r.rest = []byte(s)
		defer func() {
			got := recover()
			if _, is := got.(missing); is != (want == api.ErrMore) || got != nil && !is {
				t.Errorf("17, Ways: the decoding of %s panics with %T", cut(s), got)
			}
			if got == nil && r.fault != want {
				t.Errorf("17, Ways: the decoding of %s gives %d", cut(s), r.fault)
			}
		}()
		for !r.done() {
			r.decode()
		}
	}
	d := code(file("d", "data"))
	for _, s := range []string{puts(t), puts(t, full(api.KFile)), d + own() + d + end(), own() + own() + end(), d + rep("x", 1024), zeros(512) + rep("x", 1024), records('x', "xyz"), block(api.Header{Name: "n", Size: 65537}), block(api.Header{Name: "n", Size: 65536}), own("path", "/") + d} {
		ends(s)
		for n := 0; n < len(s); n += 1 + n%7 {
			ends(s[:n])
		}
	}
}

// A Reader keeps no bytes of what it has decoded.
func TestKeepsLittle(t *testing.T) {
	r := New()
	for i := range 20 {
		takes(t, r, code(file("a", rep("d", 1000*i))), api.OK)
		if len(r.rest) != 0 {
			t.Fatalf("a Reader keeps %d bytes of whole entries", len(r.rest))
		}
	}
	a := file("a", "data")
	for _, s := range []string{end(), rep("x", 512)} {
		r := New()
		r.Feed(shared("mtime", "9") + code(a) + own("mtime", "5") + code(a) + s + rep("x", 5000))
		for _, piece := range []string{"x", rep("x", 5000), "x"} {
			r.Feed(piece)
			if r.rest != nil {
				t.Errorf("a Reader keeps %d bytes behind %s", len(r.rest), cut(s))
			}
		}
		l := []api.Entry{a, timed(a, 5)}
		answers(t, r, r.Feed(""), l...)
		if want := (reel.Reel{Entries: l, Ended: s == end()}); !reflect.DeepEqual(r.reel, want) {
			t.Errorf("a Reader keeps %s behind %s", cut(r.reel), cut(s))
		}
	}
}
