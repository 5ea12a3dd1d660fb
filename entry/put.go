package entry

import (
	"strconv"
	"strings"

	"gripsack/acl"
	"gripsack/api"
	"gripsack/caps"
	"gripsack/flags"
	"gripsack/head"
	"gripsack/pad"
	"gripsack/rec"
	"gripsack/sixty"
	"gripsack/stamp"
	"gripsack/text"
	"gripsack/xattr"
)

// What has room in a header: the bytes of a name or a target, and the greatest
// numbers in the octal digits of a short field and of a long one.
const (
	room     = 100
	maxShort = 1<<21 - 1
	maxLong  = 1<<33 - 1
)

// The Keys of the records, but for those of Xattrs.
const (
	keyCharset = "hdrcharset"
	keyPath    = "path"
	keyTarget  = "linkpath"
	keyUid     = "uid"
	keyGid     = "gid"
	keyMtime   = "mtime"
	keyAcl     = "SCHILY.acl.access"
	keyDefault = "SCHILY.acl.default"
	keyFlags   = "SCHILY.fflags"
	keyCaps    = "GRIPSACK.caps"
)

// What the records' texts are made of: any bytes, or characters.
const (
	bytesCharset = "BINARY"
	textCharset  = "ISO-IR 10646 2000 UTF-8"
)

// The header of the records themselves.
const (
	recsName = "PaxHeaders"
	recsMode = 0o644
	recsType = 'x'
)

// firstType is the Type of the first kind; those of the others follow it.
const firstType = '0'

// Recs returns the records that are needed for e in addition to its header.
func Recs(e api.Entry) []api.Rec {
	var l []api.Rec
	add := func(needed bool, key, value string) {
		if needed {
			l = append(l, api.Rec{Key: key, Value: value})
		}
	}
	m := e.Meta
	path, target := longPath(e.Path), longTarget(e.Target)
	add(path && !text.Valid(e.Path) || target && !text.Valid(e.Target), keyCharset, bytesCharset)
	// Parts of e that are handed out as they are would keep its memory.
	add(path, keyPath, strings.Clone(e.Path))
	add(target, keyTarget, strings.Clone(e.Target))
	add(longId(m.Uid), keyUid, strconv.Itoa(m.Uid))
	add(longId(m.Gid), keyGid, strconv.Itoa(m.Gid))
	add(longTime(m.Mtime), keyMtime, stamp.Text(m.Mtime))
	add(len(m.Acl) > 0, keyAcl, acl.Text(m.Acl))
	add(len(m.Default) > 0, keyDefault, acl.Text(m.Default))
	add(m.Flags != 0, keyFlags, flags.Text(m.Flags))
	add(m.Caps.Ver != 0, keyCaps, sixty.Put(caps.Put(m.Caps)))
	return append(l, xattr.Recs(m.Xattrs)...)
}

// longPath tells whether a path has no room in a header.
func longPath(path string) bool {
	_, _, ok := head.Split(path)
	return !ok
}

func longTarget(target string) bool {
	return len(target) > room
}

func longId(id int) bool {
	return id > maxShort
}

// longTime tells whether a time has no place in a header, which knows neither
// fractions of seconds nor, as it is used here, times ahead of 1970.
func longTime(t api.Stamp) bool {
	return t.Nano != 0 || t.Sec < 0 || t.Sec > maxLong
}

// Head returns the header of e.
func Head(e api.Entry) api.Header {
	prefix, name, ok := head.Split(e.Path)
	if !ok {
		prefix, name = "", start(e.Path)
	}
	h := api.Header{
		Prefix: strings.Clone(prefix),
		Name:   strings.Clone(name),
		Mode:   e.Meta.Mode,
		Size:   len(e.Data),
		Type:   byte(firstType + e.Kind - api.KFile),
		Link:   strings.Clone(start(e.Target)),
		Major:  e.Major,
		Minor:  e.Minor,
	}
	if !longId(e.Meta.Uid) {
		h.Uid = e.Meta.Uid
	}
	if !longId(e.Meta.Gid) {
		h.Gid = e.Meta.Gid
	}
	if !longTime(e.Meta.Mtime) {
		h.Mtime = e.Meta.Mtime.Sec
	}
	return h
}

// start returns as much of s as has room in a header.
func start(s string) string {
	return s[:min(len(s), room)]
}

// Put returns the encoding of e, or the empty string if e is not valid.
func Put(e api.Entry) string {
	if !May(e) {
		return ""
	}
	return putRecs(Recs(e)) + head.Put(Head(e)) + pad.Put(e.Data)
}

// putRecs returns records with a header of their own. Without records there is
// none.
func putRecs(l []api.Rec) string {
	if len(l) == 0 {
		return ""
	}
	all := rec.Join(l)
	h := api.Header{Name: recsName, Mode: recsMode, Type: recsType, Size: len(all)}
	return head.Put(h) + pad.Put(all)
}
