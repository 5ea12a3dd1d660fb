package entry

import (
	"encoding/base64"
	"encoding/binary"
	"fmt"
	"math/big"
	"reflect"
	"regexp"
	"slices"
	"strconv"
	"strings"
	"testing"
	"unicode/utf8"

	"gripsack/acl"
	"gripsack/api"
	"gripsack/caps"
	"gripsack/flags"
	"gripsack/meta"
	"gripsack/sixty"
	"gripsack/stamp"
	"gripsack/xattr"
)

// What the calls answer by the words of the chapter: another writing of all of
// it, against which the tests of this folder hold the package.

// The numbers of the chapter, written out.
const (
	most    = 2147483647
	lastSec = 1099511627776
	maxPax  = 65536
)

// kinds are all that there are.
var kinds = []int{1, 2, 3, 4, 5, 6, 7}

func rep(s string, n int) string { return strings.Repeat(s, n) }

// rs are records: key, value, key, value.
func rs(l ...string) []api.Rec {
	var out []api.Rec
	for i := 0; i+1 < len(l); i += 2 {
		out = append(out, api.Rec{Key: l[i], Value: l[i+1]})
	}
	return out
}

// xs are attributes: name, value, name, value.
func xs(l ...string) []api.Xattr {
	var out []api.Xattr
	for i := 0; i+1 < len(l); i += 2 {
		out = append(out, api.Xattr{Name: l[i], Value: l[i+1]})
	}
	return out
}

var (
	names  = regexp.MustCompile(`^[^/\x00]+(/[^/\x00]+)*$`)
	digits = regexp.MustCompile(`^(0|[1-9][0-9]*)$`)
)

func wantPath(s string) bool {
	// The pattern goes by characters, and so would take wrong ones for one.
	var wide strings.Builder
	for _, c := range []byte(s) {
		wide.WriteRune(rune(c))
	}
	if !names.MatchString(wide.String()) || len(s) > 4096 || strings.Count(s, "/") > 63 {
		return false
	}
	for _, name := range strings.Split(s, "/") {
		if len(name) > 255 || name == "." || name == ".." {
			return false
		}
	}
	return true
}

// recSize is the length of the encoding of a record.
func recSize(r api.Rec) int {
	rest := len(" " + r.Key + "=" + r.Value + "\n")
	for n := rest + 1; ; n++ {
		if len(strconv.Itoa(n))+rest == n {
			return n
		}
	}
}

func wantJoin(l []api.Rec) string {
	s := ""
	for _, r := range l {
		s += fmt.Sprintf("%d %s=%s\n", recSize(r), r.Key, r.Value)
	}
	return s
}

func wantMay(e api.Entry) bool {
	hard, sym, device := e.Kind == 2, e.Kind == 3, e.Kind == 4 || e.Kind == 5
	for _, holds := range []bool{
		wantPath(e.Path),
		slices.Contains(kinds, e.Kind),
		!hard || wantPath(e.Target) && noMeta(e.Meta),
		hard || meta.May(e.Meta, e.Kind),
		!sym || len(e.Target) >= 1 && len(e.Target) <= 4096 && !strings.Contains(e.Target, "\x00"),
		hard || sym || e.Target == "",
		len(e.Data) <= 65536,
		e.Kind == 1 || e.Data == "",
		e.Major >= 0 && e.Major <= 2097151,
		e.Minor >= 0 && e.Minor <= 2097151,
		device || e.Major == 0 && e.Minor == 0,
	} {
		if !holds {
			return false
		}
	}
	size := 0
	for _, r := range wantRecs(e) {
		if len(r.Key) < 1 || len(r.Key) > 255 || strings.ContainsAny(r.Key, "=\x00") || recSize(r) > maxPax {
			return false
		}
		size += recSize(r)
	}
	return size <= maxPax
}

func noMeta(m api.Meta) bool {
	lists := len(m.Acl) + len(m.Default) + len(m.Xattrs)
	return lists == 0 && m.Mode == 0 && m.Uid == 0 && m.Gid == 0 && m.Flags == 0 && m.Mtime == api.Stamp{} && m.Caps == api.Caps{}
}

// parted divides a path by the words of 7.3.
func parted(path string) (prefix, name string, ok bool) {
	if len(path) <= 100 {
		return "", path, true
	}
	for i, c := range []byte(path) {
		if behind := len(path) - i - 1; c == '/' && behind >= 1 && behind <= 100 {
			return path[:i], path[i+1:], i >= 1 && i <= 155
		}
	}
	return "", "", false
}

func timeText(t api.Stamp) string {
	sum := new(big.Rat).Add(big.NewRat(int64(t.Sec), 1), big.NewRat(int64(t.Nano), 1000000000))
	return strings.TrimSuffix(strings.TrimRight(sum.FloatString(9), "0"), ".")
}

func aclText(l []api.Ace) string {
	var parts []string
	for _, a := range l {
		s := map[int]string{1: "u::", 2: fmt.Sprintf("u:%d:", a.Id), 3: "g::", 4: fmt.Sprintf("g:%d:", a.Id), 5: "m::", 6: "o::"}[a.Tag]
		parts = append(parts, s+[]string{"---", "--x", "-w-", "-wx", "r--", "r-x", "rw-", "rwx"}[a.Perm])
	}
	return strings.Join(parts, ",")
}

func flagText(n int) string {
	var parts []string
	for i, name := range []string{"uchg", "uappnd", "nodump", "opaque"} {
		if n&(1<<i) > 0 {
			parts = append(parts, name)
		}
	}
	return strings.Join(parts, ",")
}

func capsCode(c api.Caps) string {
	first := uint32(c.Ver) << 24
	if c.Effective {
		first++
	}
	var b []byte
	for _, n := range []uint32{first, uint32(c.Permitted), uint32(c.Inheritable), uint32(c.Permitted >> 32), uint32(c.Inheritable >> 32)} {
		b = binary.LittleEndian.AppendUint32(b, n)
	}
	if c.Ver == 3 {
		b = binary.LittleEndian.AppendUint32(b, uint32(c.Root))
	}
	return base64.StdEncoding.EncodeToString(b)
}

func nameCode(s string) string {
	out := ""
	for _, c := range []byte(s) {
		if c < 33 || c > 126 || c == '%' || c == '=' {
			out += fmt.Sprintf("%%%02X", c)
		} else {
			out += string(rune(c))
		}
	}
	return out
}

// wantRecs are the records of an entry whose fields may be.
func wantRecs(e api.Entry) []api.Rec {
	var l []api.Rec
	m := e.Meta
	if _, _, ok := parted(e.Path); !ok {
		l = append(l, rs("path", e.Path)...)
	}
	if len(e.Target) > 100 {
		l = append(l, rs("linkpath", e.Target)...)
	}
	for _, r := range l {
		if !utf8.ValidString(r.Value) {
			l = append(rs("hdrcharset", "BINARY"), l...)
			break
		}
	}
	if m.Uid > 2097151 {
		l = append(l, rs("uid", fmt.Sprint(m.Uid))...)
	}
	if m.Gid > 2097151 {
		l = append(l, rs("gid", fmt.Sprint(m.Gid))...)
	}
	if !inHeader(m.Mtime) {
		l = append(l, rs("mtime", timeText(m.Mtime))...)
	}
	if len(m.Acl) > 0 {
		l = append(l, rs("SCHILY.acl.access", aclText(m.Acl))...)
	}
	if len(m.Default) > 0 {
		l = append(l, rs("SCHILY.acl.default", aclText(m.Default))...)
	}
	if m.Flags != 0 {
		l = append(l, rs("SCHILY.fflags", flagText(m.Flags))...)
	}
	if m.Caps.Ver != 0 {
		l = append(l, rs("GRIPSACK.caps", capsCode(m.Caps))...)
	}
	for _, x := range m.Xattrs {
		if !strings.Contains(x.Name, "=") {
			l = append(l, rs("SCHILY.xattr."+x.Name, x.Value)...)
		}
		l = append(l, rs("LIBARCHIVE.xattr."+nameCode(x.Name), base64.StdEncoding.EncodeToString([]byte(x.Value)))...)
	}
	return l
}

func inHeader(t api.Stamp) bool {
	return t.Nano == 0 && t.Sec >= 0 && t.Sec <= 8589934591
}

func wantHead(e api.Entry) api.Header {
	cut := func(s string) string {
		if len(s) > 100 {
			return s[:100]
		}
		return s
	}
	h := api.Header{Mode: e.Meta.Mode, Uid: e.Meta.Uid, Gid: e.Meta.Gid, Mtime: e.Meta.Mtime.Sec, Size: len(e.Data), Type: "?0123456"[e.Kind], Link: cut(e.Target), Major: e.Major, Minor: e.Minor}
	var ok bool
	if h.Prefix, h.Name, ok = parted(e.Path); !ok {
		h.Prefix, h.Name = "", cut(e.Path)
	}
	if h.Uid > 2097151 {
		h.Uid = 0
	}
	if h.Gid > 2097151 {
		h.Gid = 0
	}
	if !inHeader(e.Meta.Mtime) {
		h.Mtime = 0
	}
	return h
}

// block lays out a header whose numbers all have octal digits.
func block(h api.Header) string {
	b := make([]byte, 512)
	copy(b, h.Name)
	copy(b[100:], fmt.Sprintf("%07o\x00%07o\x00%07o\x00%011o\x00%011o\x00", h.Mode, h.Uid, h.Gid, h.Size, h.Mtime))
	copy(b[148:], "        ")
	b[156] = h.Type
	copy(b[157:], h.Link)
	copy(b[257:], "ustar\x0000")
	copy(b[265:], h.Uname)
	copy(b[297:], h.Gname)
	copy(b[329:], fmt.Sprintf("%07o\x00%07o\x00", h.Major, h.Minor))
	copy(b[345:], h.Prefix)
	sum := 0
	for _, c := range b {
		sum += int(c)
	}
	copy(b[148:], fmt.Sprintf("%06o\x00 ", sum))
	return string(b)
}

func padded(s string) string {
	return s + rep("\x00", (512-len(s)%512)%512)
}

func wantPut(e api.Entry) string {
	if !wantMay(e) {
		return ""
	}
	s := ""
	if l := wantRecs(e); len(l) > 0 {
		join := wantJoin(l)
		s = block(api.Header{Name: "PaxHeaders", Mode: 420, Type: 'x', Size: len(join)}) + padded(join)
	}
	return s + block(wantHead(e)) + padded(e.Data)
}

// wantOver first asks whether each Value says something, and then, for each
// field, for the last record of it.
func wantOver(h api.Header, data string, l []api.Rec) (api.Entry, api.Errno) {
	kind, is := map[byte]int{0: 1, '0': 1, '1': 2, '2': 3, '3': 4, '4': 5, '5': 6, '6': 7}[h.Type]
	attributes, bad := xattr.From(l)
	if !is || bad != api.OK || slices.ContainsFunc(l, func(r api.Rec) bool { return !wantValue(r) }) {
		return api.Entry{}, api.ErrForm
	}
	last := func(key, plain string) string {
		for _, r := range slices.Backward(l) {
			if r.Key == key && r.Value != "" {
				return r.Value
			} else if r.Key == key {
				break
			}
		}
		return plain
	}
	e := api.Entry{Kind: kind, Data: data}
	path := h.Name
	if h.Prefix != "" {
		path = h.Prefix + "/" + h.Name
	}
	if kind == 6 && strings.HasSuffix(path, "/") {
		path = path[:len(path)-1]
	}
	e.Path = last("path", path)
	if kind == 2 || kind == 3 {
		e.Target = last("linkpath", h.Link)
	}
	if kind == 4 || kind == 5 {
		e.Major, e.Minor = h.Major, h.Minor
	}
	if kind != 2 {
		e.Meta = api.Meta{Mode: h.Mode, Mtime: api.Stamp{Sec: h.Mtime}, Xattrs: attributes}
		e.Meta.Uid, _ = strconv.Atoi(last("uid", strconv.Itoa(h.Uid)))
		e.Meta.Gid, _ = strconv.Atoi(last("gid", strconv.Itoa(h.Gid)))
		if s := last("mtime", ""); s != "" {
			e.Meta.Mtime, _ = stamp.Parse(s)
		}
		e.Meta.Acl, _ = acl.Parse(last("SCHILY.acl.access", ""))
		e.Meta.Default, _ = acl.Parse(last("SCHILY.acl.default", ""))
		e.Meta.Flags, _ = flags.Parse(last("SCHILY.fflags", ""))
		code, _ := sixty.Get(last("GRIPSACK.caps", ""))
		e.Meta.Caps, _ = caps.Get(code)
	}
	if !wantMay(e) {
		return api.Entry{}, api.ErrForm
	}
	return e, api.OK
}

// wantValue tells whether the Value of a record can be decoded.
func wantValue(r api.Rec) (ok bool) {
	switch s := r.Value; r.Key {
	case "hdrcharset":
		return s == "BINARY" || s == "ISO-IR 10646 2000 UTF-8"
	case "uid", "gid":
		return s == "" || digits.MatchString(s) && (len(s) < 10 || len(s) == 10 && s <= "2147483647")
	case "mtime":
		_, ok = stamp.Parse(s)
		return s == "" || ok
	case "SCHILY.acl.access", "SCHILY.acl.default":
		_, ok = acl.Parse(s)
		return ok
	case "SCHILY.fflags":
		_, ok = flags.Parse(s)
		return ok
	case "GRIPSACK.caps":
		code, ok1 := sixty.Get(s)
		_, ok2 := caps.Get(code)
		return ok1 && ok2
	}
	return true
}

// cut is what a fault shows of something.
func cut(v any) string {
	s := strconv.Quote(fmt.Sprintf("%+v", v))
	if len(s) > 500 {
		return fmt.Sprintf("%s.. (%d bytes)", s[:500], len(s))
	}
	return s
}

// may tells a fault if May or Put answer otherwise, or the words do.
func may(t *testing.T, e api.Entry, want bool) {
	t.Helper()
	if got := May(e); got != want {
		t.Errorf("15.1: May(%s) = %v", cut(e), got)
	}
	if got := Put(e); (got != "") != want {
		t.Errorf("15.2: Put(%s) has %d bytes", cut(e), len(got))
	}
	if got := wantMay(e); got != want {
		t.Errorf("the words say %v of %s", got, cut(e))
	}
}

// good tells a fault if e is not valid, or if any call answers otherwise than
// by the words.
func good(t *testing.T, e api.Entry) {
	t.Helper()
	may(t, e, true)
	l, h := Recs(e), Head(e)
	if want := wantRecs(e); !slices.Equal(l, want) {
		t.Errorf("15.2: Recs(%s) = %s; want %s", cut(e), cut(l), cut(want))
	}
	if want := wantHead(e); h != want {
		t.Errorf("15.2: Head(%s) = %s; want %s", cut(e), cut(h), cut(want))
	}
	if got, want := Put(e), wantPut(e); got != want {
		t.Errorf("15.2: Put(%s) = %s; want %s", cut(e), cut(got), cut(want))
	}
	says(t, h, e.Data, l, e)
}

// agrees tells a fault if a call answers otherwise than by the words.
func agrees(t *testing.T, e api.Entry) bool {
	t.Helper()
	want := wantMay(e)
	if want {
		good(t, e)
	} else {
		may(t, e, false)
	}
	return want
}

// says tells a fault if Over answers otherwise, or the words do.
func says(t *testing.T, h api.Header, data string, l []api.Rec, want api.Entry) {
	t.Helper()
	if got, bad := Over(h, data, l); bad != api.OK || !equal(got, want) {
		t.Errorf("15.3: Over(%s, %s, %s) = %s, %d; want %s", cut(h), cut(data), cut(l), cut(got), bad, cut(want))
	}
	if got, bad := wantOver(h, data, l); bad != api.OK || !equal(got, want) {
		t.Errorf("the words say %s, %d of %s, %s", cut(got), bad, cut(h), cut(l))
	}
}

// fails tells a fault if Over answers an entry, or the words do.
func fails(t *testing.T, h api.Header, data string, l []api.Rec) {
	t.Helper()
	if got, bad := Over(h, data, l); bad != api.ErrForm || !bare(got) {
		t.Errorf("15.3: Over(%s, %s, %s) = %s, %d", cut(h), cut(data), cut(l), cut(got), bad)
	}
	if got, bad := wantOver(h, data, l); bad != api.ErrForm {
		t.Errorf("the words say %s, %d of %s, %s", cut(got), bad, cut(h), cut(l))
	}
}

// overAgrees tells a fault if Over answers otherwise than by the words.
func overAgrees(t *testing.T, h api.Header, data string, l []api.Rec) bool {
	t.Helper()
	want, bad := wantOver(h, data, l)
	if bad == api.OK {
		says(t, h, data, l, want)
	} else {
		fails(t, h, data, l)
	}
	return bad == api.OK
}

// bare tells whether nothing at all stands in e.
func bare(e api.Entry) bool {
	m := e.Meta
	return equal(e, api.Entry{}) && m.Acl == nil && m.Default == nil && m.Xattrs == nil
}

// equal asks each field of two entries.
func equal(a, b api.Entry) bool {
	lists := slices.Equal(a.Meta.Acl, b.Meta.Acl) && slices.Equal(a.Meta.Default, b.Meta.Default) && slices.Equal(a.Meta.Xattrs, b.Meta.Xattrs)
	return lists && reflect.DeepEqual(listless(a), listless(b))
}

func listless(e api.Entry) api.Entry {
	e.Meta.Acl, e.Meta.Default, e.Meta.Xattrs = nil, nil, nil
	return e
}
