package meta

import (
	"fmt"
	"math"
	"math/rand"
	"reflect"
	"slices"
	"strings"
	"testing"

	"gripsack/api"
)

// The numbers of the chapter, written out.
const (
	most    = 2147483647
	lastSec = 1099511627776
)

// kinds are those of nodes, and allKinds all numbers that are tried for one.
var (
	kinds    = []int{1, 3, 4, 5, 6, 7}
	allKinds = []int{math.MinInt, -257, -7, -3, -2, -1, 0, 1, 2, 3, 4, 5, 6, 7, 8, 9, 10, 257, 259, 1<<32 + 1, math.MaxInt}
)

func rep(s string, n int) string { return strings.Repeat(s, n) }

// list are the parts of an access list: tag, id, perm, tag, id, perm.
func list(n ...int) []api.Ace {
	var l []api.Ace
	for i := 0; i+2 < len(n); i += 3 {
		l = append(l, api.Ace{Tag: n[i], Id: n[i+1], Perm: n[i+2]})
	}
	return l
}

// three is the access list of three parts for the rights of a mode.
func three(mode int) []api.Ace {
	return list(1, 0, mode/64%8, 3, 0, mode/8%8, 6, 0, mode%8)
}

// long is an access list with users, groups and a mask, for the rights of a
// mode. What the TGroup has doesn't count in it.
func long(mode int) []api.Ace {
	return list(1, 0, mode/64%8, 2, 0, 7, 2, 5, 4, 2, most, 1, 3, 0, 7-mode/8%8, 4, 7, 3, 4, 9, 0, 5, 0, mode/8%8, 6, 0, mode%8)
}

// xs are attributes: name, value, name, value.
func xs(l ...string) []api.Xattr {
	var out []api.Xattr
	for i := 0; i+1 < len(l); i += 2 {
		out = append(out, api.Xattr{Name: l[i], Value: l[i+1]})
	}
	return out
}

// wantAces tells whether an access list is valid, by the words of chapter 9:
// the parts are taken from it one by one.
func wantAces(l []api.Ace) bool {
	rest, good := l, len(l) <= 32
	take := func(tag int) (count int) {
		last := -1
		for len(rest) > 0 && rest[0].Tag == tag {
			a := rest[0]
			withId := tag == 2 || tag == 4
			if a.Perm < 0 || a.Perm > 7 || withId && (a.Id <= last || a.Id > most) || !withId && a.Id != 0 {
				good = false
			}
			last = a.Id
			rest = rest[1:]
			count++
		}
		return count
	}
	owners, users, groups, nameds, masks, others := take(1), take(2), take(3), take(4), take(5), take(6)
	masked := 0
	if users+nameds > 0 {
		masked = 1
	}
	return good && len(rest) == 0 && owners == 1 && groups == 1 && masks == masked && others == 1
}

// wantMode is the Mode of a valid access list, by the words of chapter 9.
func wantMode(l []api.Ace) int {
	perm := map[int]int{}
	for _, a := range l {
		perm[a.Tag] = a.Perm
	}
	group := perm[3]
	if mask, is := perm[5]; is {
		group = mask
	}
	return 64*perm[1] + 8*group + perm[6]
}

// wantXattrs tells whether attributes are valid, by the words of chapter 13.
func wantXattrs(l []api.Xattr) bool {
	for i, x := range l {
		size := 0
		for _, c := range []byte(x.Name) {
			if c < 33 || c > 126 || c == '%' || c == '=' {
				size += 2
			}
			size++
		}
		if x.Name == "" || strings.Contains(x.Name, "\x00") || size > 238 || len(x.Value) > 4096 || i > 0 && x.Name <= l[i-1].Name {
			return false
		}
	}
	return len(l) <= 32
}

// wantCaps tells whether capabilities are valid, by the words of chapter 11.
func wantCaps(c api.Caps) bool {
	return c == api.Caps{} || c.Ver == 2 && c.Root == 0 || c.Ver == 3 && c.Root >= 0 && c.Root <= most
}

// wantMay is what May answers, by the words of the chapter.
func wantMay(m api.Meta, kind int) bool {
	low := ((m.Mode % 512) + 512) % 512
	for _, holds := range []bool{
		slices.Contains(kinds, kind),
		m.Mode >= 0 && m.Mode <= 4095,
		m.Uid >= 0 && m.Uid <= most,
		m.Gid >= 0 && m.Gid <= most,
		m.Mtime.Sec >= -lastSec && m.Mtime.Sec <= lastSec,
		m.Mtime.Nano >= 0 && m.Mtime.Nano <= 999999999,
		m.Flags >= 0 && m.Flags <= 15,
		wantXattrs(m.Xattrs),
		len(m.Acl) == 0 || wantAces(m.Acl) && wantMode(m.Acl) == low,
		len(m.Default) == 0 || kind == 6 && wantAces(m.Default),
		wantCaps(m.Caps),
		m.Caps == api.Caps{} || kind == 1,
		kind != 3 || m.Mode == 511 && len(m.Acl) == 0 && m.Flags == 0,
	} {
		if !holds {
			return false
		}
	}
	return true
}

// copied is m made anew.
func copied(m api.Meta) api.Meta {
	m.Acl, m.Default, m.Xattrs = slices.Clone(m.Acl), slices.Clone(m.Default), slices.Clone(m.Xattrs)
	for i, x := range m.Xattrs {
		m.Xattrs[i] = api.Xattr{Name: strings.Clone(x.Name), Value: strings.Clone(x.Value)}
	}
	return m
}

// cut is what a fault shows of metadata.
func cut(m api.Meta) string {
	s := fmt.Sprintf("%+v", m)
	return fmt.Sprintf("%.400s (%d bytes)", s, len(s))
}

// may tells a fault if May answers otherwise, or the words do.
func may(t *testing.T, m api.Meta, kind int, want bool) {
	t.Helper()
	if got := May(m, kind); got != want {
		t.Errorf("14.1: May(%s, %d) = %v", cut(m), kind, got)
	}
	if got := wantMay(m, kind); got != want {
		t.Errorf("the words say %v of %s for kind %d", got, cut(m), kind)
	}
}

// mayFor tells a fault if m is not valid for these kinds alone.
func mayFor(t *testing.T, m api.Meta, valid ...int) {
	t.Helper()
	for _, kind := range allKinds {
		may(t, m, kind, slices.Contains(valid, kind))
	}
}

// agrees tells a fault if May answers otherwise than by the words.
func agrees(t *testing.T, m api.Meta, kind int) bool {
	t.Helper()
	want := wantMay(m, kind)
	may(t, m, kind, want)
	return want
}

// same tells a fault if Same answers otherwise, in either order.
func same(t *testing.T, a, b api.Meta, want bool) {
	t.Helper()
	if got := Same(a, b); got != want {
		t.Errorf("14.1: Same(%s, %s) = %v", cut(a), cut(b), got)
	}
	if got := Same(b, a); got != want {
		t.Errorf("14.1: Same(%s, %s) = %v", cut(b), cut(a), got)
	}
}

// full has every field set that a kind may have.
func full(kind int) api.Meta {
	m := api.Meta{Mode: 0o2754, Uid: 1000, Gid: 100, Mtime: api.Stamp{Sec: 1700000000, Nano: 250000000}, Acl: long(0o754), Xattrs: xs("trusted.a", "\x00\xff", "user.a", "b"), Flags: 5}
	switch kind {
	case api.KFile:
		m.Caps = api.Caps{Ver: 3, Permitted: 1 << 10, Inheritable: 1 << 38, Effective: true, Root: 1000}
	case api.KDir:
		m.Default = long(0o610)
	case api.KSym:
		m.Mode, m.Acl, m.Flags = 511, nil, 0
	}
	return m
}

// bare has no field set that a kind may have empty.
func bare(kind int) api.Meta {
	if kind == api.KSym {
		return Plain(511, 0, 0)
	}
	return Plain(0, 0, 0)
}

func TestExamples(t *testing.T) {
	may(t, Plain(420, 0, 0), api.KFile, true)
	m := Plain(420, 5, 6)
	if len(m.Acl) != 0 || len(m.Xattrs) != 0 {
		t.Errorf("14.1: Plain(420, 5, 6) = %s", cut(m))
	}
	empty := m
	empty.Acl = []api.Ace{}
	same(t, m, empty, true)
}

// Plain takes any numbers, also such as may not be.
func TestPlain(t *testing.T) {
	numbers := []int{math.MinInt, -1 << 32, -1 << 31, -4096, -1, 0, 1, 2, 5, 420, 511, 512, 1023, 4095, 4096, most, 1 << 31, 1 << 32, math.MaxInt}
	for _, mode := range numbers {
		for _, uid := range numbers {
			for _, gid := range numbers {
				m := Plain(mode, uid, gid)
				if want := (api.Meta{Mode: mode, Uid: uid, Gid: gid}); !reflect.DeepEqual(m, want) {
					t.Errorf("14.1: Plain(%d, %d, %d) = %s", mode, uid, gid, cut(m))
				}
				for kind := range 9 {
					agrees(t, m, kind)
				}
			}
		}
	}
}

// Each kind, with its metadata of the usual sorts.
func TestKinds(t *testing.T) {
	mayFor(t, api.Meta{}, 1, 4, 5, 6, 7)
	mayFor(t, Plain(420, 0, 0), 1, 4, 5, 6, 7)
	mayFor(t, Plain(510, 0, 0), 1, 4, 5, 6, 7)
	mayFor(t, Plain(511, 1000, 100), 1, 3, 4, 5, 6, 7)
	mayFor(t, Plain(512, 0, 0), 1, 4, 5, 6, 7)
	mayFor(t, full(api.KFile), 1)
	mayFor(t, full(api.KDir), 6)
	mayFor(t, full(api.KSym), 1, 3, 4, 5, 6, 7)
	for _, kind := range []int{api.KChar, api.KBlock, api.KFifo} {
		mayFor(t, full(kind), 1, 4, 5, 6, 7)
	}
	for _, kind := range kinds {
		may(t, full(kind), kind, true)
		may(t, bare(kind), kind, true)
	}
	for kind := -300; kind <= 600; kind++ {
		may(t, Plain(511, 0, 0), kind, kind == 1 || kind >= 3 && kind <= 7)
	}
	// Nothing that is said makes a KHard, or what is no kind, valid.
	for _, kind := range []int{api.KHard, 0, -1, 8} {
		for _, other := range kinds {
			may(t, full(other), kind, false)
			may(t, bare(other), kind, false)
		}
	}
}

func TestMode(t *testing.T) {
	for mode := -600; mode <= 5000; mode++ {
		right := mode >= 0 && mode <= 4095
		for _, kind := range kinds {
			may(t, Plain(mode, 0, 0), kind, right && (kind != api.KSym || mode == 511))
		}
	}
	for _, mode := range []int{math.MinInt, math.MinInt + 511, -1 << 32, -4095, 4096 + 511, 8191, 1 << 16, 1<<31 - 1, 1 << 32, 1<<32 + 511, math.MaxInt} {
		mayFor(t, Plain(mode, 0, 0))
	}
}

func TestOwner(t *testing.T) {
	for _, id := range []int{math.MinInt, -1 << 32, -1<<32 + 1, -1<<31 - 1, -1 << 31, -1000, -2, -1, 0, 1, 1000, 65535, 65536, 2097151, 2097152, most - 1, most, most + 1, most + 2, 1<<32 - 1, 1 << 32, 1<<32 + 1, math.MaxInt} {
		right := id >= 0 && id <= most
		for _, kind := range kinds {
			for _, m := range []api.Meta{bare(kind), full(kind)} {
				m.Uid = id
				may(t, m, kind, right)
				m.Gid = id
				may(t, m, kind, right)
				m.Uid = 0
				may(t, m, kind, right)
				m.Uid = most + 1
				may(t, m, kind, false)
			}
		}
	}
}

func TestMtime(t *testing.T) {
	for _, sec := range []int{math.MinInt, -lastSec - 1, -lastSec, -lastSec + 1, -1700000000, -5, -2, -1, 0, 1, 2, 1700000000, 1<<33 - 1, 1 << 33, lastSec - 1, lastSec, lastSec + 1, math.MaxInt} {
		for _, nano := range []int{math.MinInt, -1000000000, -1, 0, 1, 500000000, 999999999, 1000000000, 1000000001, 2000000000, 1 << 32, math.MaxInt} {
			right := sec >= -lastSec && sec <= lastSec && nano >= 0 && nano <= 999999999
			for _, kind := range kinds {
				for _, m := range []api.Meta{bare(kind), full(kind)} {
					m.Mtime = api.Stamp{Sec: sec, Nano: nano}
					may(t, m, kind, right)
				}
			}
		}
	}
}

func TestFlags(t *testing.T) {
	for n := -300; n <= 300; n++ {
		right := n >= 0 && n <= 15
		for _, kind := range kinds {
			for _, m := range []api.Meta{bare(kind), full(kind)} {
				m.Flags = n
				may(t, m, kind, right && (n == 0 || kind != api.KSym))
			}
		}
	}
	for _, n := range []int{math.MinInt, math.MinInt + 5, 1 << 16, 1 << 32, 1<<32 + 5, math.MaxInt} {
		m := Plain(511, 0, 0)
		m.Flags = n
		mayFor(t, m)
	}
}

// many are n attributes with ascending names.
func many(n int) []api.Xattr {
	var l []api.Xattr
	for i := range n {
		l = append(l, api.Xattr{Name: fmt.Sprintf("user.n%03d", i)})
	}
	return l
}

func TestXattrs(t *testing.T) {
	for _, c := range []struct {
		l    []api.Xattr
		want bool
	}{
		{nil, true}, {[]api.Xattr{}, true}, {xs("a", ""), true}, {xs("user.a", "b", "user.b", "a"), true}, {xs("a", "1", "a=", "2", "aa", "3"), true}, {xs("\xff", "\x00"), true},
		{many(31), true}, {many(32), true}, {many(33), false}, {many(1000), false},
		{xs("a", rep("v", 4096)), true}, {xs("a", rep("v", 4097)), false}, {xs("a", rep("v", 4097), "b", ""), false},
		{xs(rep("n", 238), ""), true}, {xs(rep("n", 239), ""), false}, {xs(rep("=", 79), ""), true}, {xs(rep("=", 80), ""), false},
		{xs("", ""), false}, {xs("", "a", "b", "c"), false}, {xs("\x00", ""), false}, {xs("a\x00", "b"), false},
		{xs("b", "1", "a", "2"), false}, {xs("a", "1", "c", "2", "b", "3"), false}, {xs("a", "1", "a", "1"), false}, {xs("a", "1", "a", "2"), false}, {xs("a", "1", "A", "2"), false},
	} {
		for _, kind := range kinds {
			for _, m := range []api.Meta{bare(kind), full(kind)} {
				m.Xattrs = c.l
				may(t, m, kind, c.want)
			}
		}
	}
}

// wrongLists are access lists that are not valid, but for what they lack or
// have beside would be of the Mode 0o754.
func wrongLists() [][]api.Ace {
	var l [][]api.Ace
	for _, good := range [][]api.Ace{three(0o754), long(0o754)} {
		for i := range good {
			l = append(l, slices.Delete(slices.Clone(good), i, i+1))
			l = append(l, slices.Insert(slices.Clone(good), i, good[i]))
			if i > 0 {
				swapped := slices.Clone(good)
				swapped[i-1], swapped[i] = swapped[i], swapped[i-1]
				l = append(l, swapped)
			}
			for _, turn := range []func(a *api.Ace){
				func(a *api.Ace) { a.Perm += 8 },
				func(a *api.Ace) { a.Perm -= 8 },
				func(a *api.Ace) { a.Id = -1 },
				func(a *api.Ace) { a.Id = most + 1 },
				func(a *api.Ace) { a.Tag += 6 },
				func(a *api.Ace) { a.Tag = 0 },
			} {
				turned := slices.Clone(good)
				turn(&turned[i])
				l = append(l, turned)
			}
		}
		for n := 1; n < len(good); n++ {
			l = append(l, good[:n], good[n:])
		}
	}
	l = slices.DeleteFunc(l, wantAces)
	users := []api.Ace{{Tag: 1, Perm: 7}}
	for i := range 29 {
		users = append(users, api.Ace{Tag: 2, Id: i})
	}
	users = append(users, list(3, 0, 5, 5, 0, 5, 6, 0, 4)...)
	return append(l, users, make([]api.Ace, 1), make([]api.Ace, 3), list(1, 0, 7, 3, 0, 5, 5, 0, 5, 6, 0, 4), list(3, 0, 5, 1, 0, 7, 6, 0, 4), list(6, 0, 4, 3, 0, 5, 1, 0, 7))
}

// rightLists are valid access lists of the Mode 0o754.
func rightLists() [][]api.Ace {
	users := []api.Ace{{Tag: 1, Perm: 7}}
	for i := range 28 {
		users = append(users, api.Ace{Tag: 2, Id: i})
	}
	users = append(users, list(3, 0, 0, 5, 0, 5, 6, 0, 4)...)
	return [][]api.Ace{three(0o754), long(0o754), users, list(1, 0, 7, 2, 0, 0, 3, 0, 5, 5, 0, 5, 6, 0, 4), list(1, 0, 7, 3, 0, 2, 4, most, 7, 5, 0, 5, 6, 0, 4)}
}

func TestAcl(t *testing.T) {
	right, wrong := rightLists(), wrongLists()
	if len(wrong) < 80 {
		t.Errorf("the test has %d wrong lists", len(wrong))
	}
	for _, kind := range kinds {
		for _, m := range []api.Meta{bare(kind), full(kind)} {
			for _, high := range []int{0, api.Sticky, api.SetGid, api.SetUid, 0o7000} {
				m.Mode = high | 0o754
				for _, l := range right {
					m.Acl = l
					may(t, m, kind, kind != api.KSym)
				}
				for _, l := range wrong {
					m.Acl = l
					may(t, m, kind, false)
				}
				for _, l := range [][]api.Ace{nil, {}, right[1][:0]} {
					m.Acl = l
					may(t, m, kind, kind != api.KSym)
				}
			}
			// An empty list asks for no Mode.
			m.Acl, m.Mode = []api.Ace{}, 511
			may(t, m, kind, true)
			// A link has no list, whatever Mode that one has.
			m.Acl = three(511)
			may(t, m, kind, kind != api.KSym)
		}
	}
}

// The Acl says the lowest 9 bits of the Mode, and these alone.
func TestAclMode(t *testing.T) {
	for mode := range 512 {
		for other := range 512 {
			m := Plain(other|(mode*other%8)<<9, 0, 0)
			m.Acl = three(mode)
			may(t, m, api.KFile, mode == other)
			m.Acl = long(mode)
			may(t, m, api.KDir, mode == other)
		}
		for high := range 8 {
			for _, l := range [][]api.Ace{three(mode), long(mode)} {
				m := Plain(high<<9|mode, 0, 0)
				m.Acl = l
				mayFor(t, m, 1, 4, 5, 6, 7)
				// The mask counts for the group, not the TGroup.
				m.Mode ^= 0o070
				mayFor(t, m)
				// Another high bit asks for nothing; one beyond all is wrong.
				m.Mode ^= 0o070 | 0o1000
				may(t, m, api.KFifo, true)
				m.Mode += 1 << 12
				may(t, m, api.KFifo, false)
				m.Mode -= 1 << 13
				may(t, m, api.KFifo, false)
			}
		}
	}
}

// A Default is for directories, and has nothing to do with the Mode.
func TestDefault(t *testing.T) {
	for _, kind := range kinds {
		for _, m := range []api.Meta{bare(kind), full(kind)} {
			for mode := range 512 {
				for _, l := range [][]api.Ace{three(mode), long(mode)} {
					m.Default = l
					may(t, m, kind, kind == api.KDir)
				}
			}
			for _, l := range rightLists() {
				m.Default = l
				may(t, m, kind, kind == api.KDir)
			}
			for _, l := range wrongLists() {
				m.Default = l
				may(t, m, kind, false)
			}
			for _, l := range [][]api.Ace{nil, {}, long(0)[:0]} {
				m.Default = l
				may(t, m, kind, true)
			}
		}
	}
}

// rightCaps are valid capabilities that are not zero.
func rightCaps() []api.Caps {
	l := []api.Caps{{Ver: 2}, {Ver: 3}}
	for _, n := range []uint64{1, 1 << 10, 1 << 31, 1 << 32, 1 << 63, math.MaxUint64} {
		l = append(l, api.Caps{Ver: 2, Permitted: n}, api.Caps{Ver: 2, Inheritable: n, Effective: true}, api.Caps{Ver: 3, Permitted: n, Inheritable: n, Root: most}, api.Caps{Ver: 3, Permitted: n, Effective: true, Root: 1})
	}
	return l
}

// wrongCaps are capabilities that are not valid.
func wrongCaps() []api.Caps {
	l := []api.Caps{
		{Permitted: 1}, {Permitted: 1 << 63}, {Inheritable: 1}, {Effective: true}, {Root: 1}, {Root: -1}, {Permitted: 1, Inheritable: 1, Effective: true, Root: 1},
		{Ver: 2, Root: 1}, {Ver: 2, Root: -1}, {Ver: 2, Root: 1 << 32}, {Ver: 3, Root: -1}, {Ver: 3, Root: most + 1}, {Ver: 3, Root: 1 << 32}, {Ver: 3, Root: math.MinInt},
	}
	for _, ver := range []int{math.MinInt, -3, -2, -1, 1, 4, 5, 258, 259, 1<<32 + 2, math.MaxInt} {
		l = append(l, api.Caps{Ver: ver}, api.Caps{Ver: ver, Permitted: 1, Effective: true})
	}
	return l
}

func TestCaps(t *testing.T) {
	for _, kind := range kinds {
		for _, m := range []api.Meta{bare(kind), full(kind)} {
			m.Caps = api.Caps{}
			may(t, m, kind, true)
			for _, c := range rightCaps() {
				m.Caps = c
				may(t, m, kind, kind == api.KFile)
			}
			for _, c := range wrongCaps() {
				m.Caps = c
				may(t, m, kind, false)
			}
		}
	}
}

// A KSym has the Mode 511, no Acl and no Flags; all else is as for others.
func TestLink(t *testing.T) {
	link := func(do func(m *api.Meta)) api.Meta {
		m := Plain(511, 7, 8)
		do(&m)
		return m
	}
	for _, c := range []struct {
		do   func(m *api.Meta)
		want bool
	}{
		{func(m *api.Meta) {}, true},
		{func(m *api.Meta) { m.Uid, m.Gid = most, 0 }, true},
		{func(m *api.Meta) { m.Mtime = api.Stamp{Sec: -5, Nano: 1} }, true},
		{func(m *api.Meta) { m.Xattrs = xs("trusted.a", "b") }, true},
		{func(m *api.Meta) { m.Acl, m.Default = []api.Ace{}, []api.Ace{} }, true},
		{func(m *api.Meta) { m.Mode = 420 }, false},
		{func(m *api.Meta) { m.Mode = 0 }, false},
		{func(m *api.Meta) { m.Mode = 510 }, false},
		{func(m *api.Meta) { m.Mode = 512 }, false},
		{func(m *api.Meta) { m.Mode = 511 | api.Sticky }, false},
		{func(m *api.Meta) { m.Mode = 511 | api.SetUid }, false},
		{func(m *api.Meta) { m.Mode = 4095 }, false},
		{func(m *api.Meta) { m.Acl = three(511) }, false},
		{func(m *api.Meta) { m.Acl = long(511) }, false},
		{func(m *api.Meta) { m.Default = three(511) }, false},
		{func(m *api.Meta) { m.Caps.Ver = 2 }, false},
		{func(m *api.Meta) { m.Flags = 1 }, false},
		{func(m *api.Meta) { m.Flags = 8 }, false},
		{func(m *api.Meta) { m.Flags = 15 }, false},
		{func(m *api.Meta) { m.Xattrs = xs("b", "", "a", "") }, false},
	} {
		may(t, link(c.do), api.KSym, c.want)
	}
}

// flaw makes one field wrong.
type flaw struct {
	name string
	do   func(m *api.Meta)
}

// flaws are wrong for every kind.
func flaws() []flaw {
	return []flaw{
		{"Mode", func(m *api.Meta) { m.Mode += 4096 }},
		{"Mode", func(m *api.Meta) { m.Mode -= 4096 }},
		{"Uid", func(m *api.Meta) { m.Uid = -1 }},
		{"Uid", func(m *api.Meta) { m.Uid = most + 1 }},
		{"Gid", func(m *api.Meta) { m.Gid = -1 }},
		{"Gid", func(m *api.Meta) { m.Gid = most + 1 }},
		{"Mtime", func(m *api.Meta) { m.Mtime.Nano = 1000000000 }},
		{"Mtime", func(m *api.Meta) { m.Mtime.Nano = -1 }},
		{"Mtime", func(m *api.Meta) { m.Mtime.Sec = lastSec + 1 }},
		{"Mtime", func(m *api.Meta) { m.Mtime.Sec = -lastSec - 1 }},
		{"Flags", func(m *api.Meta) { m.Flags = 16 }},
		{"Flags", func(m *api.Meta) { m.Flags = -1 }},
		{"Xattrs", func(m *api.Meta) { m.Xattrs = xs("b", "1", "a", "2") }},
		{"Xattrs", func(m *api.Meta) { m.Xattrs = xs("", "1") }},
		{"Acl", func(m *api.Meta) { m.Acl = list(3, 0, m.Mode/8%8, 1, 0, m.Mode/64%8, 6, 0, m.Mode%8) }},
		{"Acl", func(m *api.Meta) { m.Acl = three(m.Mode)[:2] }},
		{"Acl", func(m *api.Meta) { m.Acl = three(m.Mode ^ 1) }},
		{"Acl", func(m *api.Meta) { m.Acl = long(m.Mode ^ 0o100) }},
		{"Acl", func(m *api.Meta) { m.Acl = make([]api.Ace, 1) }},
		{"Default", func(m *api.Meta) { m.Default = list(3, 0, 5, 1, 0, 7, 6, 0, 4) }},
		{"Default", func(m *api.Meta) { m.Default = three(0)[1:] }},
		{"Default", func(m *api.Meta) { m.Default = list(1, 0, 8, 3, 0, 0, 6, 0, 0) }},
		{"Caps", func(m *api.Meta) { m.Caps = api.Caps{Ver: 1} }},
		{"Caps", func(m *api.Meta) { m.Caps = api.Caps{Ver: 2, Root: 1} }},
		{"Caps", func(m *api.Meta) { m.Caps = api.Caps{Permitted: 1} }},
	}
}

// Each field wrong alone, and each two of them, for each kind.
func TestFlaws(t *testing.T) {
	for _, kind := range kinds {
		for _, good := range []api.Meta{bare(kind), full(kind)} {
			for _, a := range flaws() {
				one := good
				a.do(&one)
				may(t, one, kind, false)
				same(t, one, good, false)
				for _, b := range flaws() {
					if a.name == b.name {
						continue
					}
					two := good
					a.do(&two)
					b.do(&two)
					may(t, two, kind, false)
				}
			}
			may(t, good, kind, true)
		}
	}
}

// some are metadata of all kinds; of those for one of them most are not valid.
func some() []api.Meta {
	l := []api.Meta{{}, Plain(420, 5, 6), Plain(511, 0, 0), Plain(-1, -1, -1), Plain(5, 6, 420), {Caps: api.Caps{Root: 2}}, {Flags: 16}, {Mtime: api.Stamp{Nano: -1}}, {Acl: three(0)}, {Default: three(0)}, {Xattrs: xs("", "")}, {Acl: make([]api.Ace, 1)}, {Acl: three(0), Default: three(0)}}
	for _, kind := range []int{api.KFile, api.KSym, api.KChar, api.KDir} {
		l = append(l, full(kind))
		for _, f := range flaws() {
			m := full(kind)
			f.do(&m)
			l = append(l, m)
		}
	}
	return l
}

// Each of several metadata is the same as itself, made anew, and as no other.
func TestSame(t *testing.T) {
	all := some()
	met := map[bool]int{}
	for i, a := range all {
		same(t, a, copied(a), true)
		for _, b := range all[:i] {
			want := reflect.DeepEqual(a, b)
			same(t, a, copied(b), want)
			met[want]++
		}
	}
	if met[true] > 10 || met[false] < 5000 {
		t.Errorf("the test meets %v", met)
	}
	for _, l := range [][]api.Ace{nil, {}, long(0)[:0]} {
		for _, x := range [][]api.Xattr{nil, {}, many(1)[:0]} {
			m := Plain(420, 5, 6)
			m.Acl, m.Default, m.Xattrs = l, l, x
			same(t, m, Plain(420, 5, 6), true)
			m.Acl = three(0)
			same(t, m, Plain(420, 5, 6), false)
		}
	}
}

// leaves calls do with each number, text and bool of v, as it is met.
func leaves(v reflect.Value, do func(v reflect.Value)) {
	switch v.Kind() {
	case reflect.Struct:
		for i := range v.NumField() {
			leaves(v.Field(i), do)
		}
	case reflect.Slice:
		for i := range v.Len() {
			leaves(v.Index(i), do)
		}
	default:
		do(v)
	}
}

// turned are all that differ from v in a way that is easily overlooked.
func turned(v reflect.Value) []any {
	switch n := v.Interface().(type) {
	case int:
		return []any{n + 1, n - 1, -n - 1, n ^ 1<<31, n ^ 1<<32, n ^ math.MinInt}
	case uint64:
		return []any{n + 1, n - 1, n ^ 1<<31, n ^ 1<<32, n ^ 1<<63}
	case bool:
		return []any{!n}
	case string:
		return []any{n + "x", n + "\x00", "x" + n, strings.ToUpper(n) + "_"}
	}
	panic("the test meets a field of another type")
}

// Metadata that differ in one field alone, or in one part of one element of a
// list, are not the same.
func TestSameFields(t *testing.T) {
	full := full(api.KFile)
	full.Default = long(0o610)
	for _, good := range []api.Meta{{}, full, {Acl: three(7), Default: long(5), Xattrs: xs("a", "", "b", "")}} {
		m := copied(good)
		count := 0
		leaves(reflect.ValueOf(&m).Elem(), func(v reflect.Value) {
			count++
			before := reflect.ValueOf(v.Interface())
			for _, other := range turned(v) {
				v.Set(reflect.ValueOf(other))
				same(t, m, good, false)
			}
			v.Set(before)
			same(t, m, good, true)
		})
		if want := 11 + 3*len(good.Acl) + 3*len(good.Default) + 2*len(good.Xattrs); count != want {
			t.Errorf("the test turns %d parts of %s; want %d", count, cut(good), want)
		}
	}
}

// resized are l with an element more or less, and with two exchanged.
func resized[T any](l []T) [][]T {
	var out [][]T
	for i := range l {
		out = append(out, slices.Delete(slices.Clone(l), i, i+1), l[:i], slices.Insert(slices.Clone(l), i, l[i]))
		for j := range i {
			swapped := slices.Clone(l)
			swapped[i], swapped[j] = swapped[j], swapped[i]
			out = append(out, swapped)
		}
	}
	var zero T
	return append(out, slices.Concat(l, l), append(slices.Clone(l), zero), append([]T{zero}, l...))
}

// Metadata that differ in a list's length or order are not the same.
func TestSameLists(t *testing.T) {
	good := full(api.KFile)
	good.Default = long(0o610)
	good.Xattrs = many(5)
	for _, l := range resized(good.Acl) {
		m := good
		m.Acl = l
		same(t, m, good, false)
	}
	for _, l := range resized(good.Default) {
		m := good
		m.Default = l
		same(t, m, good, false)
	}
	for _, l := range resized(good.Xattrs) {
		m := good
		m.Xattrs = l
		same(t, m, good, false)
	}
	// A list in the other one's field.
	m := good
	m.Acl, m.Default = good.Default, good.Acl
	same(t, m, good, false)
	m.Acl = good.Acl
	same(t, m, good, false)
	m.Default = good.Default
	same(t, m, good, true)
	same(t, api.Meta{Acl: three(7)}, api.Meta{Default: three(7)}, false)
	// A number in another one's field.
	for i, a := range fields(7) {
		for j, b := range fields(7) {
			same(t, a, b, i == j)
		}
	}
}

// fields are metadata with one number in one field, each time another one.
func fields(n int) []api.Meta {
	return []api.Meta{
		{Mode: n}, {Uid: n}, {Gid: n}, {Mtime: api.Stamp{Sec: n}}, {Mtime: api.Stamp{Nano: n}}, {Flags: n},
		{Caps: api.Caps{Ver: n}}, {Caps: api.Caps{Permitted: uint64(n)}}, {Caps: api.Caps{Inheritable: uint64(n)}}, {Caps: api.Caps{Root: n}}, {Caps: api.Caps{Effective: true}},
		{Acl: list(n, 0, 0)}, {Acl: list(0, n, 0)}, {Acl: list(0, 0, n)}, {Default: list(n, 0, 0)}, {Default: list(0, n, 0)}, {Default: list(0, 0, n)},
		{Xattrs: xs("7", "")}, {Xattrs: xs("", "7")},
	}
}

// mixedAces returns an access list that is empty, or of a mode; some are wrong.
func mixedAces(random *rand.Rand, mode int) []api.Ace {
	switch random.Intn(12) {
	case 0:
		return wrongLists()[random.Intn(50)]
	case 1:
		return three(random.Intn(512))
	case 2, 3:
		return three(mode)
	case 4, 5:
		return long(mode)
	}
	return nil
}

// mixed are metadata of which many are valid for some kind.
func mixed(random *rand.Rand) api.Meta {
	one := func(usual int, others ...int) int {
		if random.Intn(12) > 0 {
			return usual
		}
		return others[random.Intn(len(others))]
	}
	mode := one([]int{511, random.Intn(512), random.Intn(4096)}[random.Intn(3)], -1, 4096, 4095, 0)
	m := Plain(mode, one(random.Intn(most), 0, -1, most, most+1), one(random.Intn(most), 0, -1, most, most+1))
	m.Mtime = api.Stamp{Sec: one(random.Intn(1<<34)-1<<33, lastSec, lastSec+1, -lastSec, -lastSec-1), Nano: one(random.Intn(1000000000), -1, 0, 999999999, 1000000000)}
	m.Acl = mixedAces(random, mode&511)
	if random.Intn(3) == 0 {
		m.Default = mixedAces(random, random.Intn(512))
	}
	m.Xattrs = [][]api.Xattr{nil, nil, {}, xs("a", "b"), xs("a", "b", "c", "d"), many(32), xs("b", "a", "b", "a"), xs("\x00", "")}[random.Intn(8)]
	switch random.Intn(12) {
	case 0, 1, 2:
		m.Caps = rightCaps()[random.Intn(20)]
	case 3:
		m.Caps = wrongCaps()[random.Intn(20)]
	}
	m.Flags = one([]int{0, random.Intn(16)}[random.Intn(2)], -1, 16)
	return m
}

// 14.2, with metadata of all sorts: what is the Same is valid for the same
// kinds.
func TestMixed(t *testing.T) {
	random := rand.New(rand.NewSource(142))
	met := map[int]map[bool]int{}
	for _, kind := range kinds {
		met[kind] = map[bool]int{}
	}
	for range 40000 {
		a := mixed(random)
		b := copied(a)
		if b.Acl == nil {
			b.Acl = []api.Ace{}
		}
		if b.Xattrs == nil {
			b.Xattrs = []api.Xattr{}
		}
		same(t, a, b, true)
		for _, kind := range kinds {
			valid := agrees(t, a, kind)
			may(t, b, kind, valid)
			met[kind][valid]++
		}
		may(t, a, api.KHard, false)
	}
	for kind, m := range met {
		if m[true] < 400 || m[false] < 10000 {
			t.Errorf("the test meets %v for kind %d", m, kind)
		}
	}
}

// 14.2, the other way round: no two of which one is valid, and the other not,
// are the Same.
func TestSameBothValid(t *testing.T) {
	all := some()
	for _, a := range all {
		for _, b := range all {
			for _, kind := range kinds {
				if Same(a, b) && May(a, kind) != May(b, kind) {
					t.Errorf("14.2: %s and %s are the Same, but one alone is valid for kind %d", cut(a), cut(b), kind)
				}
			}
		}
	}
}

// R1: whatever is given, nothing panics, and each call ends with the same
// answer, whatever was asked in between.
func TestNoPanic(t *testing.T) {
	numbers := []int{math.MinInt, -1 << 32, -1, 0, 1, 511, 4096, most + 1, math.MaxInt}
	for _, n := range numbers {
		for _, field := range fields(n) {
			for _, kind := range append(allKinds, numbers...) {
				agrees(t, field, kind)
			}
			same(t, field, copied(field), true)
		}
	}
	for _, n := range []int{1 << 13, 1 << 20} {
		for _, m := range []api.Meta{{Acl: make([]api.Ace, n)}, {Default: make([]api.Ace, n)}, {Xattrs: make([]api.Xattr, n)}, {Xattrs: xs(rep("n", n), "")}, {Xattrs: xs("a", rep("v", n))}} {
			for _, kind := range kinds {
				may(t, m, kind, false)
			}
			same(t, m, copied(m), true)
			same(t, m, api.Meta{}, false)
		}
	}
	for range 3 {
		for _, kind := range kinds {
			may(t, full(kind), kind, true)
			may(t, full(kind), api.KHard, false)
			may(t, bare(kind), kind, true)
		}
	}
}

// R3: arguments stay as they are, and two answers share no memory.
func TestNewMemory(t *testing.T) {
	for _, m := range some() {
		// What stands behind a list stays as well.
		m.Acl = append(slices.Clone(m.Acl), list(6, 5, 4)...)
		m.Xattrs = append(slices.Clone(m.Xattrs), xs("behind", "x")...)
		before := copied(m)
		given := m
		given.Acl, given.Xattrs = m.Acl[:len(m.Acl)-1], m.Xattrs[:len(m.Xattrs)-1]
		for _, kind := range allKinds {
			May(given, kind)
		}
		Same(given, m)
		Same(m, given)
		if !reflect.DeepEqual(m, before) {
			t.Errorf("R3: %s was %s", cut(m), cut(before))
		}
	}
	a, b := Plain(420, 5, 6), Plain(420, 5, 6)
	a.Acl, a.Default, a.Xattrs = append(a.Acl, three(420)...), append(a.Default, three(420)...), append(a.Xattrs, many(3)...)
	a.Mode = 1
	if !reflect.DeepEqual(b, Plain(420, 5, 6)) || cap(b.Acl)+cap(b.Default)+cap(b.Xattrs) > 0 {
		t.Errorf("R3: two answers of Plain share memory: %s", cut(b))
	}
}

// The way of the chapter: a field that is not valid panics inside, and with
// nothing but what is meant for it.
func TestWay(t *testing.T) {
	ends := func(m api.Meta, kind int, want bool) {
		t.Helper()
		defer func() {
			got := recover()
			if _, is := got.(noMeta); is != want || got != nil && !is {
				t.Errorf("14, Ways: the check of %s for kind %d panics with %T", cut(m), kind, got)
			}
		}()
		check(m, kind)
	}
	for _, kind := range allKinds {
		ends(Plain(511, 0, 0), kind, !slices.Contains(kinds, kind))
	}
	for _, kind := range kinds {
		for _, good := range []api.Meta{bare(kind), full(kind)} {
			ends(good, kind, false)
			for _, f := range flaws() {
				m := good
				f.do(&m)
				ends(m, kind, true)
			}
		}
	}
}

// fuzzed are metadata made of numbers and texts.
func fuzzed(mode, uid, gid, sec, nano, flags, ver, root, ace, part int, powers uint64, name, value string) api.Meta {
	m := Plain(mode, uid, gid)
	m.Mtime = api.Stamp{Sec: sec, Nano: nano}
	m.Flags = flags
	m.Caps = api.Caps{Ver: ver, Permitted: powers, Inheritable: powers >> 7, Effective: powers&1 > 0, Root: root}
	if ace&1 > 0 {
		m.Acl = three(mode & 511)
	}
	if ace&2 > 0 {
		m.Acl = long(mode & 511)
	}
	if ace&4 > 0 {
		m.Default = long(part & 511)
	}
	if ace&8 > 0 && len(m.Acl) > 0 {
		m.Acl[(part&0xffff)%len(m.Acl)].Perm ^= part >> 16
	}
	if ace&16 > 0 {
		m.Acl = append(m.Acl, api.Ace{Tag: part & 7, Id: part >> 6, Perm: part >> 3 & 7})
	}
	if name+value != "" {
		m.Xattrs = append(m.Xattrs, api.Xattr{Name: name, Value: value})
	}
	return m
}

func FuzzMay(f *testing.F) {
	f.Add(1, 420, 5, 6, -5, 1, 0, 0, 0, 0, 0, uint64(0), "", "")
	f.Add(1, 2541, 1000, 100, 1700000000, 999999999, 5, 3, most, 2, 0, uint64(1025), "user.a", "b")
	f.Add(6, 1023, most, 0, lastSec, 0, 15, 0, 0, 6, 493, uint64(0), "a=b", "")
	f.Add(3, 511, 0, 0, 0, 0, 0, 0, 0, 0, 0, uint64(0), "trusted.a", "\x00")
	f.Add(3, 511, 0, 0, 0, 0, 0, 0, 0, 1, 0, uint64(0), "", "")
	f.Add(7, 4095, 0, 0, 0, 0, 8, 2, 1, 25, 1<<16, uint64(1), "\x00", "")
	f.Fuzz(func(t *testing.T, kind, mode, uid, gid, sec, nano, flags, ver, root, ace, part int, powers uint64, name, value string) {
		m := fuzzed(mode, uid, gid, sec, nano, flags, ver, root, ace, part, powers, name, value)
		agrees(t, m, kind)
		agrees(t, m, kind&7)
		agrees(t, m, api.KFile)
		agrees(t, m, api.KDir)
		same(t, m, copied(m), true)
		leaves(reflect.ValueOf(&m).Elem(), func(v reflect.Value) {
			before := reflect.ValueOf(v.Interface())
			good := copied(m)
			v.Set(reflect.ValueOf(turned(v)[0]))
			same(t, m, good, false)
			v.Set(before)
		})
	})
}
