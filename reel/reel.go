// Package reel decodes an archive header by header, wherever its bytes come
// from: package tape has all of them, package feed gets them in pieces. What it
// decodes is said in DOC.md, chapter 16.
package reel

import (
	"slices"
	"strings"

	"gripsack/api"
	"gripsack/entry"
	"gripsack/head"
	"gripsack/pad"
	"gripsack/rec"
)

// The Types of headers ahead of records: of those that are said of the next
// entry alone, and of those that are said of all entries from then on.
const (
	ownType    = 'x'
	sharedType = 'g'
)

// Reel is how far the decoding of an archive has come. The zero Reel is at its
// beginning.
type Reel struct {
	Entries []api.Entry
	Ended   bool
	shared  []api.Rec // what is said of all entries to come
	own     []api.Rec // what is said of the next entry alone
	waits   bool      // own has been read, though it may be empty
}

// Next decodes the next header with all that belongs to it. It reads by take,
// which returns the next n bytes and panics if there are fewer: r is then as it
// was, so that Next may be called again from the same header on. Behind the end
// or an error nothing is left to decode.
func (r *Reel) Next(take func(n int) string) api.Errno {
	h, e := head.Get(take(api.Block))
	if e == api.ErrNone {
		return r.end(take)
	}
	if e != api.OK {
		return e
	}
	switch h.Type {
	case ownType:
		return r.readOwn(h, take)
	case sharedType:
		return r.readShared(h, take)
	}
	return r.readEntry(h, take)
}

// end reads what stands behind the first block of the end.
func (r *Reel) end(take func(n int) string) api.Errno {
	if strings.Trim(take(api.Block), "\x00") != "" || r.waits {
		return api.ErrForm
	}
	r.Ended = true
	return api.OK
}

func (r *Reel) readOwn(h api.Header, take func(n int) string) api.Errno {
	l, e := records(h, take)
	if e != api.OK {
		return e
	}
	if r.waits {
		return api.ErrForm
	}
	r.own, r.waits = l, true
	return api.OK
}

func (r *Reel) readShared(h api.Header, take func(n int) string) api.Errno {
	l, e := records(h, take)
	r.shared = append(r.shared, l...)
	return e
}

func (r *Reel) readEntry(h api.Header, take func(n int) string) api.Errno {
	// Too many entries are too many whatever the next one is.
	if len(r.Entries) == api.MaxEntries {
		return api.ErrLimit
	}
	s, e := data(h, api.MaxData, take)
	if e != api.OK {
		return e
	}
	found, e := entry.Over(h, s, slices.Concat(r.shared, r.own))
	if e != api.OK {
		return e
	}
	r.Entries = append(r.Entries, found)
	r.own, r.waits = nil, false
	return api.OK
}

// records reads the records behind h.
func records(h api.Header, take func(n int) string) ([]api.Rec, api.Errno) {
	s, e := data(h, api.MaxPax, take)
	if e != api.OK {
		return nil, e
	}
	return rec.All(s)
}

// data reads the data behind h, which may have most bytes at most.
func data(h api.Header, most int, take func(n int) string) (string, api.Errno) {
	if h.Size > most {
		return "", api.ErrLimit
	}
	s, _, e := pad.Get(take(pad.Size(h.Size)), 0, h.Size)
	return s, e
}
