package reel_test

import (
	"slices"
	"strings"
	"testing"

	"gripsack/api"
	"gripsack/entry"
	"gripsack/head"
	"gripsack/pad"
	"gripsack/rec"
	"gripsack/reel"
	"gripsack/tape"
)

// What an archive means is tested where it is asked: in packages tape and feed.
// Here stands what these two rely on.

func file(path, data string) api.Entry {
	return api.Entry{Path: path, Kind: api.KFile, Data: data, Meta: api.Meta{Mode: 0o600, Mtime: api.Stamp{Sec: 9}}}
}

// records are a header of a type and the one record behind it.
func records(kind byte, key, value string) string {
	s := rec.Put(api.Rec{Key: key, Value: value})
	return head.Put(api.Header{Name: "h", Type: kind, Size: len(s)}) + pad.Put(s)
}

func zeros(n int) string { return strings.Repeat("\x00", n) }

// archives are good and bad ones.
func archives() []string {
	a, b := entry.Put(file("a", "data")), entry.Put(file("b", strings.Repeat("d", 600)))
	x, g := records('x', "mtime", "5"), records('g', "mtime", "6")
	return []string{zeros(1024), a + zeros(1024), g + a + x + b + x + g + a + zeros(1024), a + x + x + b, a + x + zeros(1024), a + zeros(512) + b, a + strings.Repeat("x", 512), b + records('x', "uid", "x") + a, b + head.Put(api.Header{Name: "n", Size: 65537})}
}

// supply are bytes, and how many of them are taken.
type supply struct {
	s  string
	at int
}

func (b *supply) take(n int) string {
	if b.at+n > len(b.s) {
		panic("there are too few")
	}
	b.at += n
	return b.s[b.at-n : b.at]
}

// next tells whether Next has come to an end, and with which error. If it
// panics, the bytes are put back.
func next(r *reel.Reel, b *supply) (e api.Errno, came bool) {
	at := b.at
	defer func() {
		if recover() != nil {
			b.at = at
		}
	}()
	return r.Next(b.take), true
}

// A Next that bytes are missing for changes nothing: it may be called again.
func TestAgain(t *testing.T) {
	for _, s := range archives() {
		want, bad := tape.Get(s)
		for n := range len(s) {
			var r reel.Reel
			b := &supply{s: s[:n]}
			e := api.OK
			for !r.Ended && e == api.OK {
				there := len(r.Entries)
				again, came := next(&r, b)
				if came {
					e = again
					continue
				}
				if r.Ended || len(r.Entries) != there || b.s == s {
					t.Fatalf("after %d of %d bytes Next changes its Reel", n, len(s))
				}
				b.s = s[:min(len(s), len(b.s)+500)]
			}
			if e != bad || e == api.OK && !slices.EqualFunc(r.Entries, want, entry.Same) {
				t.Fatalf("from %d of %d bytes on Next gives %v, %d; want %v, %d", n, len(s), r.Entries, e, want, bad)
			}
		}
	}
}

// Next takes no byte behind the end.
func TestEnd(t *testing.T) {
	s := entry.Put(file("a", "data")) + zeros(1024)
	b := &supply{s: s + "behind"}
	var r reel.Reel
	for range 2 {
		if e, came := next(&r, b); e != api.OK || !came {
			t.Fatalf("Next gives %d", e)
		}
	}
	if !r.Ended || b.at != len(s) || len(r.Entries) != 1 {
		t.Errorf("Next stops behind %d of %d bytes, with %d entries", b.at, len(s), len(r.Entries))
	}
}
