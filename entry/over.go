package entry

import (
	"cmp"
	"strconv"
	"strings"

	"gripsack/acl"
	"gripsack/api"
	"gripsack/caps"
	"gripsack/flags"
	"gripsack/head"
	"gripsack/sixty"
	"gripsack/stamp"
	"gripsack/xattr"
)

// noEntry is what the decoding panics with when it meets a field that is not
// valid. It never leaves the package.
type noEntry struct{}

func must(ok bool) {
	if !ok {
		panic(noEntry{})
	}
}

// decoded returns v, which a decoding has answered together with ok.
func decoded[T any](v T, ok bool) T {
	must(ok)
	return v
}

// Over returns the entry that a header, data and records describe.
func Over(h api.Header, data string, l []api.Rec) (found api.Entry, e api.Errno) {
	// If the decoding panics, found has not been set and is still zero.
	defer func() {
		if recover() != nil {
			e = api.ErrForm
		}
	}()
	return decode(h, data, l), api.OK
}

func decode(h api.Header, data string, l []api.Rec) api.Entry {
	plain := described(h)
	e := plain
	e.Data = data
	for _, r := range l {
		apply(&e, plain, r)
	}
	e.Meta.Xattrs = attributes(l)
	// The records of a KHard have been read all the same: wrong ones are wrong
	// wherever they stand.
	if e.Kind == api.KHard {
		e.Meta = api.Meta{}
	}
	must(May(e))
	return owned(e)
}

// described returns what a header alone says of an entry.
func described(h api.Header) api.Entry {
	e := api.Entry{Path: head.Join(h), Kind: kindOf(h.Type)}
	e.Meta = api.Meta{Mode: h.Mode, Uid: h.Uid, Gid: h.Gid, Mtime: api.Stamp{Sec: h.Mtime}}
	if e.Kind == api.KDir {
		e.Path = strings.TrimSuffix(e.Path, slash)
	}
	if hasTarget(e.Kind) {
		e.Target = h.Link
	}
	if isDevice(e.Kind) {
		e.Major, e.Minor = h.Major, h.Minor
	}
	return e
}

// kindOf returns the kind that a Type stands for. Older archives have a byte 0
// for a file.
func kindOf(c byte) int {
	if c == 0 {
		return api.KFile
	}
	kind := int(c) - firstType + api.KFile
	must(kind >= api.KFile && kind <= api.KFifo)
	return kind
}

// apply sets the field of e that r says, if it says one. Where r has no Value,
// some fields are again what they are in plain, which is of the header alone.
func apply(e *api.Entry, plain api.Entry, r api.Rec) {
	switch r.Key {
	case keyCharset:
		must(r.Value == bytesCharset || r.Value == textCharset)
	case keyPath:
		e.Path = cmp.Or(r.Value, plain.Path)
	case keyTarget:
		if hasTarget(e.Kind) {
			e.Target = cmp.Or(r.Value, plain.Target)
		}
	case keyUid:
		e.Meta.Uid = either(r.Value, number, plain.Meta.Uid)
	case keyGid:
		e.Meta.Gid = either(r.Value, number, plain.Meta.Gid)
	case keyMtime:
		e.Meta.Mtime = either(r.Value, stamp.Parse, plain.Meta.Mtime)
	case keyAcl:
		e.Meta.Acl = decoded(acl.Parse(r.Value))
	case keyDefault:
		e.Meta.Default = decoded(acl.Parse(r.Value))
	case keyFlags:
		e.Meta.Flags = decoded(flags.Parse(r.Value))
	case keyCaps:
		e.Meta.Caps = decoded(caps.Get(decoded(sixty.Get(r.Value))))
	}
}

// either returns what value says, or plain if it is empty.
func either[T any](value string, parse func(string) (T, bool), plain T) T {
	if value == "" {
		return plain
	}
	return decoded(parse(value))
}

// number returns the id whose decimal is s.
func number(s string) (int, bool) {
	n, err := strconv.Atoi(s)
	// A plus and leading zeros are read as well, but never written.
	if err != nil || n < 0 || n > api.MaxId || strconv.Itoa(n) != s {
		return 0, false
	}
	return n, true
}

func attributes(l []api.Rec) []api.Xattr {
	found, e := xattr.From(l)
	must(e == api.OK)
	return found
}

// owned returns e with texts of its own: parts of the header and the records
// would keep all that these are cut from in memory. Its lists are new already.
func owned(e api.Entry) api.Entry {
	e.Path, e.Target, e.Data = strings.Clone(e.Path), strings.Clone(e.Target), strings.Clone(e.Data)
	return e
}
