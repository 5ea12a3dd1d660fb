package acl

import (
	"math"
	"math/rand"
	"reflect"
	"regexp"
	"slices"
	"strconv"
	"strings"
	"testing"
	"unsafe"

	"gripsack/api"
)

func ace(tag, id, perm int) api.Ace { return api.Ace{Tag: tag, Id: id, Perm: perm} }

func owner(perm int) api.Ace     { return ace(api.TOwner, 0, perm) }
func user(id, perm int) api.Ace  { return ace(api.TUser, id, perm) }
func group(perm int) api.Ace     { return ace(api.TGroup, 0, perm) }
func named(id, perm int) api.Ace { return ace(api.TNamed, id, perm) }
func mask(perm int) api.Ace      { return ace(api.TMask, 0, perm) }
func other(perm int) api.Ace     { return ace(api.TOther, 0, perm) }

func list(l ...api.Ace) []api.Ace { return l }

// most is the greatest Id, written out.
const most = 2147483647

// wantMay is what May answers: the parts are taken from l one by one, by the
// words of the chapter.
func wantMay(l []api.Ace) bool {
	if len(l) > 32 {
		return false
	}
	rest, good := l, true
	one := func(tag int) {
		if len(rest) == 0 || rest[0].Tag != tag || rest[0].Id != 0 || rest[0].Perm < 0 || rest[0].Perm > 7 {
			good = false
			return
		}
		rest = rest[1:]
	}
	several := func(tag int) int {
		count, last := 0, -1
		for len(rest) > 0 && rest[0].Tag == tag {
			if rest[0].Id <= last || rest[0].Id > most || rest[0].Perm < 0 || rest[0].Perm > 7 {
				good = false
				return count
			}
			last = rest[0].Id
			rest = rest[1:]
			count++
		}
		return count
	}
	one(1)
	users := several(2)
	one(3)
	groups := several(4)
	if users+groups > 0 {
		one(5)
	}
	one(6)
	return good && len(rest) == 0
}

// perms has the text of each Perm at its place.
var perms = []string{"---", "--x", "-w-", "-wx", "r--", "r-x", "rw-", "rwx"}

// wantText is what Text answers for a valid list.
func wantText(l []api.Ace) string {
	var parts []string
	for _, a := range l {
		id := strconv.Itoa(a.Id)
		ahead := map[int]string{1: "u::", 2: "u:" + id + ":", 3: "g::", 4: "g:" + id + ":", 5: "m::", 6: "o::"}
		parts = append(parts, ahead[a.Tag]+perms[a.Perm])
	}
	return strings.Join(parts, ",")
}

var (
	partForm = regexp.MustCompile(`^(?:([ugmo])::|([ug]):(0|[1-9][0-9]{0,9}):)([r-][w-][x-])$`)
	tagOf    = map[string]int{"u": 1, "g": 3, "m": 5, "o": 6}
)

// wantParse is what Parse answers.
func wantParse(s string) ([]api.Ace, bool) {
	var l []api.Ace
	for _, part := range strings.Split(s, ",") {
		m := partForm.FindStringSubmatch(part)
		if m == nil {
			return nil, false
		}
		a := ace(tagOf[m[1]], 0, slices.Index(perms, m[4]))
		if m[2] != "" {
			a.Tag = tagOf[m[2]] + 1
			a.Id, _ = strconv.Atoi(m[3])
		}
		l = append(l, a)
	}
	if !wantMay(l) {
		return nil, false
	}
	return l, true
}

// may tells a fault if May answers otherwise.
func may(t *testing.T, l []api.Ace, valid bool) {
	t.Helper()
	if got := May(l); got != valid {
		t.Errorf("9.1: May(%v) = %v; want %v", l, got, valid)
	}
}

// mayAgrees tells a fault if May answers otherwise than by the words.
func mayAgrees(t *testing.T, l []api.Ace) bool {
	t.Helper()
	valid := wantMay(l)
	may(t, l, valid)
	return valid
}

// wrong tells a fault if l is valid.
func wrong(t *testing.T, l ...api.Ace) {
	t.Helper()
	may(t, l, false)
	if wantMay(l) {
		t.Errorf("by the words %v is valid", l)
	}
}

// parses tells a fault if Parse answers otherwise.
func parses(t *testing.T, s string, l []api.Ace, ok bool) {
	t.Helper()
	got, gotOk := Parse(s)
	if !slices.Equal(got, l) || gotOk != ok {
		t.Errorf("9.1: Parse(%.700q) = %v, %v; want %v, %v", s, got, gotOk, l, ok)
	}
}

// fails tells a fault if Parse answers true, or a list.
func fails(t *testing.T, s string) {
	t.Helper()
	parses(t, s, nil, false)
}

// parseAgrees tells a fault if Parse answers otherwise than by the words.
func parseAgrees(t *testing.T, s string) bool {
	t.Helper()
	l, ok := wantParse(s)
	parses(t, s, l, ok)
	return ok
}

// good tells a fault if l is not valid, has another text or mode, or is not
// parsed from its text.
func good(t *testing.T, l []api.Ace, s string, mode int) {
	t.Helper()
	may(t, l, true)
	if got := Text(l); got != s {
		t.Errorf("9.1: Text(%v) = %q; want %q", l, got, s)
	}
	if got := Mode(l); got != mode {
		t.Errorf("9.2: Mode(%v) = %d; want %d", l, got, mode)
	}
	parses(t, s, l, true)
	parsed, _ := Parse(Text(l))
	if !Same(l, parsed) || !Same(parsed, l) {
		t.Errorf("9.2: %v and %v are not the Same", l, parsed)
	}
}

// row returns so many parts made by a function of the Id, from first on.
func row(make func(id, perm int) api.Ace, first, count int) []api.Ace {
	var l []api.Ace
	for i := range count {
		l = append(l, make(first+i, (first+i)&7))
	}
	return l
}

// full returns a list with so many users and named groups.
func full(users, groups int) []api.Ace {
	return slices.Concat(list(owner(6)), row(user, 0, users), list(group(4)), row(named, most-groups+1, groups), list(mask(5), other(1)))
}

// valid lists of all kinds, with their texts and modes.
var some = []struct {
	l    []api.Ace
	s    string
	mode int
}{
	{list(owner(6), group(4), other(4)), "u::rw-,g::r--,o::r--", 6<<6 | 4<<3 | 4},
	{list(owner(7), group(5), other(0)), "u::rwx,g::r-x,o::---", 7<<6 | 5<<3},
	{list(owner(0), group(0), other(0)), "u::---,g::---,o::---", 0},
	{list(owner(7), group(7), other(7)), "u::rwx,g::rwx,o::rwx", 511},
	{list(owner(1), group(2), other(3)), "u::--x,g::-w-,o::-wx", 1<<6 | 2<<3 | 3},
	// With users.
	{list(owner(7), user(0, 6), user(5, 4), group(5), mask(3), other(1)), "u::rwx,u:0:rw-,u:5:r--,g::r-x,m::-wx,o::--x", 473},
	{list(owner(6), user(0, 0), group(4), mask(4), other(0)), "u::rw-,u:0:---,g::r--,m::r--,o::---", 6<<6 | 4<<3},
	{list(owner(6), user(most, 7), group(4), mask(6), other(2)), "u::rw-,u:2147483647:rwx,g::r--,m::rw-,o::-w-", 6<<6 | 6<<3 | 2},
	{list(owner(4), user(0, 1), user(1, 1), user(2, 1), group(2), mask(1), other(0)), "u::r--,u:0:--x,u:1:--x,u:2:--x,g::-w-,m::--x,o::---", 4<<6 | 1<<3},
	{list(owner(4), user(9, 2), user(10, 2), user(100, 2), group(2), mask(7), other(0)), "u::r--,u:9:-w-,u:10:-w-,u:100:-w-,g::-w-,m::rwx,o::---", 4<<6 | 7<<3},
	{list(owner(4), user(0, 3), user(most-1, 3), user(most, 5), group(2), mask(0), other(5)), "u::r--,u:0:-wx,u:2147483646:-wx,u:2147483647:r-x,g::-w-,m::---,o::r-x", 4<<6 | 5},
	// With named groups.
	{list(owner(2), group(0), named(7, 7), named(most, 1), mask(0), other(0)), "u::-w-,g::---,g:7:rwx,g:2147483647:--x,m::---,o::---", 2 << 6},
	{list(owner(7), group(7), named(0, 0), mask(0), other(7)), "u::rwx,g::rwx,g:0:---,m::---,o::rwx", 7<<6 | 7},
	{list(owner(7), group(0), named(1000, 4), named(1001, 4), mask(5), other(0)), "u::rwx,g::---,g:1000:r--,g:1001:r--,m::r-x,o::---", 7<<6 | 5<<3},
	// With both.
	{list(owner(5), user(1000, 6), group(1), named(1000, 2), mask(6), other(3)), "u::r-x,u:1000:rw-,g::--x,g:1000:-w-,m::rw-,o::-wx", 5<<6 | 6<<3 | 3},
	{list(owner(5), user(7, 0), group(1), named(0, 7), mask(2), other(4)), "u::r-x,u:7:---,g::--x,g:0:rwx,m::-w-,o::r--", 5<<6 | 2<<3 | 4},
	{list(owner(0), user(0, 0), user(most, 0), group(0), named(0, 0), named(most, 0), mask(0), other(0)), "u::---,u:0:---,u:2147483647:---,g::---,g:0:---,g:2147483647:---,m::---,o::---", 0},
	{list(owner(7), user(0, 7), user(most, 7), group(7), named(0, 7), named(most, 7), mask(7), other(7)), "u::rwx,u:0:rwx,u:2147483647:rwx,g::rwx,g:0:rwx,g:2147483647:rwx,m::rwx,o::rwx", 511},
}

// lists returns the lists of some, and those of as many parts as may be.
func lists() [][]api.Ace {
	var all [][]api.Ace
	for _, c := range some {
		all = append(all, c.l)
	}
	return append(all, full(28, 0), full(0, 28), full(14, 14), full(27, 1), full(1, 27), full(1, 1))
}

func TestExamples(t *testing.T) {
	may(t, list(owner(6), group(4)), false)
	if got := Text(From(420)); got != "u::rw-,g::r--,o::r--" {
		t.Errorf("9.1: Text of From(420) = %q", got)
	}
	fails(t, "")
	l, ok := Parse("u::rwx,u:0:rw-,u:5:r--,g::r-x,m::-wx,o::--x")
	if !ok || Mode(l) != 473 {
		t.Errorf("9.2: Mode of %v = %d; want 473", l, Mode(l))
	}
	if l = From(0); !slices.Equal(l, list(owner(0), group(0), other(0))) {
		t.Errorf("9.2: From(0) = %v", l)
	}
}

func TestUsual(t *testing.T) {
	for _, c := range some {
		good(t, c.l, c.s, c.mode)
	}
	for _, l := range lists() {
		if !mayAgrees(t, l) {
			t.Errorf("by the words %v is not valid", l)
		}
		parseAgrees(t, wantText(l))
	}
}

// Each Perm at each place, with no part beside it that has the same.
func TestPerms(t *testing.T) {
	for a := range 8 {
		for b := range 8 {
			for c := range 8 {
				l := list(owner(a), group(b), other(c))
				good(t, l, "u::"+perms[a]+",g::"+perms[b]+",o::"+perms[c], a*64+b*8+c)
				l = list(owner(a), user(3, b), group(b^7), mask(c), other(a^c))
				good(t, l, wantText(l), a*64+c*8+a^c)
				l = list(owner(a), group(c^7), named(3, b), mask(c), other(b))
				good(t, l, wantText(l), a*64+c*8+b)
			}
		}
	}
}

// The edges of an Id, and each number of digits.
func TestIds(t *testing.T) {
	for n := 1; n <= most; n *= 10 {
		for _, id := range []int{n - 1, n, min(n*9+n-1, most), min(n*2, most)} {
			l := list(owner(6), user(id, 4), group(4), mask(4), other(0))
			good(t, l, "u::rw-,u:"+strconv.Itoa(id)+":r--,g::r--,m::r--,o::---", 6<<6|4<<3)
			l = list(owner(6), group(4), named(id, 4), mask(4), other(0))
			good(t, l, "u::rw-,g::r--,g:"+strconv.Itoa(id)+":r--,m::r--,o::---", 6<<6|4<<3)
		}
	}
	for _, id := range []int{-1, most + 1, -2, most + 2, 1 << 32, 1<<32 + 5, 1 << 62, -1 << 31, math.MaxInt, math.MinInt} {
		wrong(t, owner(6), user(id, 4), group(4), mask(4), other(0))
		wrong(t, owner(6), user(3, 4), user(id, 4), group(4), mask(4), other(0))
		wrong(t, owner(6), user(id, 4), user(id+1, 4), user(most, 4), group(4), mask(4), other(0))
		wrong(t, owner(6), group(4), named(id, 4), mask(4), other(0))
		wrong(t, owner(6), user(3, 4), group(4), named(3, 4), named(id, 4), mask(4), other(0))
		fails(t, "u::rw-,u:"+strconv.Itoa(id)+":r--,g::r--,m::r--,o::---")
		fails(t, "u::rw-,g::r--,g:"+strconv.Itoa(id)+":r--,m::r--,o::---")
	}
}

func TestIdsAscend(t *testing.T) {
	for _, ids := range [][]int{{0, 1}, {5, 6}, {0, most}, {most - 1, most}, {0, 1, 2}, {1, 3, 5, 7}, {99, 100, 1000}} {
		for _, of := range []func(id, perm int) api.Ace{user, named} {
			build := func(ids []int) []api.Ace {
				var parts []api.Ace
				for _, id := range ids {
					parts = append(parts, of(id, 1))
				}
				if parts[0].Tag == api.TUser {
					return slices.Concat(list(owner(0)), parts, list(group(0), mask(0), other(0)))
				}
				return slices.Concat(list(owner(0), group(0)), parts, list(mask(0), other(0)))
			}
			l := build(ids)
			good(t, l, wantText(l), 0)
			for i := range len(ids) - 1 {
				equal := slices.Clone(ids)
				equal[i] = equal[i+1]
				wrong(t, build(equal)...)
				fails(t, wantText(build(equal)))
				turned := slices.Clone(ids)
				turned[i], turned[i+1] = turned[i+1], turned[i]
				wrong(t, build(turned)...)
				fails(t, wantText(build(turned)))
			}
		}
	}
	// The Ids of named groups start anew.
	may(t, list(owner(0), user(8, 1), user(9, 1), group(0), named(0, 1), named(9, 1), mask(0), other(0)), true)
	// The same Id with another Perm is there twice nevertheless.
	wrong(t, owner(0), user(5, 1), user(5, 2), group(0), mask(0), other(0))
}

func TestLongest(t *testing.T) {
	for users := range 29 {
		l := full(users, 28-users)
		if len(l) != api.MaxAces {
			t.Fatalf("%d parts", len(l))
		}
		good(t, l, wantText(l), 6<<6|5<<3|1)
	}
	for users := range 30 {
		l := full(users, 29-users)
		wrong(t, l...)
		fails(t, wantText(l))
	}
	// All Ids as long as may be.
	for _, l := range [][]api.Ace{full(0, 28), slices.Concat(list(owner(0)), row(user, most-27, 28), list(group(0), mask(0), other(0)))} {
		good(t, l, wantText(l), Mode(l))
	}
	for _, parts := range []int{33, 64, 1000, 100000} {
		wrong(t, full(parts-4, 0)...)
		fails(t, wantText(full(parts-4, 0)))
		wrong(t, slices.Repeat(list(owner(0)), parts)...)
		wrong(t, make([]api.Ace, parts)...)
	}
}

// A valid list without one part, with one twice, with two in the wrong order.
func TestWrongParts(t *testing.T) {
	for _, l := range lists() {
		for i, a := range l {
			without := slices.Delete(slices.Clone(l), i, i+1)
			mayAgrees(t, without)
			parseAgrees(t, wantText(without))
			// Only one of several users or groups may be away.
			if !hasId(a.Tag) {
				wrong(t, without...)
				fails(t, wantText(without))
			}
			for j := range l {
				twice := slices.Insert(slices.Clone(l), j, a)
				wrong(t, twice...)
				fails(t, wantText(twice))
				if i == j {
					continue
				}
				turned := slices.Clone(l)
				turned[i], turned[j] = turned[j], turned[i]
				wrong(t, turned...)
				fails(t, wantText(turned))
			}
		}
		wrong(t, append(slices.Clone(l), l...)...)
		fails(t, wantText(l)+","+wantText(l))
	}
	wrong(t)
	for _, a := range list(owner(7), user(1, 7), group(7), named(1, 7), mask(7), other(7), ace(0, 0, 0), ace(7, 0, 0)) {
		wrong(t, a)
	}
}

// A valid list with one number of one part changed.
func TestWrongNumbers(t *testing.T) {
	for _, l := range lists() {
		for i := range l {
			change := func(change func(a *api.Ace)) []api.Ace {
				turned := slices.Clone(l)
				change(&turned[i])
				return turned
			}
			for _, perm := range []int{-1, 8, -2, 9, -8, 15, 16, 1 << 32, 1<<32 + 7, math.MinInt, math.MaxInt} {
				wrong(t, change(func(a *api.Ace) { a.Perm = perm })...)
			}
			for perm := range 8 {
				may(t, change(func(a *api.Ace) { a.Perm = perm }), true)
			}
			for _, tag := range []int{0, api.TOther + 1, -1, 8, 32, 1<<32 + l[i].Tag, -l[i].Tag, math.MinInt, math.MaxInt} {
				wrong(t, change(func(a *api.Ace) { a.Tag = tag })...)
			}
			for tag := api.TOwner; tag <= api.TOther; tag++ {
				mayAgrees(t, change(func(a *api.Ace) { a.Tag = tag }))
				mayAgrees(t, change(func(a *api.Ace) { a.Tag, a.Id = tag, 0 }))
			}
			for _, id := range []int{-1, 0, 1, 2, 5, 7, most, most + 1, 1 << 32, math.MinInt, math.MaxInt} {
				changed := change(func(a *api.Ace) { a.Id = id })
				mayAgrees(t, changed)
				if id != 0 && !hasId(l[i].Tag) {
					wrong(t, changed...)
				}
			}
		}
	}
	for _, tag := range []int{0, api.TOther + 1} {
		wrong(t, ace(tag, 0, 0), owner(0), group(0), other(0))
		wrong(t, owner(0), ace(tag, 0, 0), group(0), other(0))
		wrong(t, owner(0), group(0), ace(tag, 0, 0), other(0))
		wrong(t, owner(0), group(0), other(0), ace(tag, 0, 0))
	}
}

func TestMask(t *testing.T) {
	wrong(t, owner(6), group(4), mask(4), other(4))
	wrong(t, owner(6), group(4), mask(0), other(4))
	wrong(t, owner(6), user(5, 4), group(4), other(4))
	wrong(t, owner(6), group(4), named(5, 4), other(4))
	wrong(t, owner(6), user(5, 4), group(4), named(5, 4), other(4))
	for _, s := range []string{"u::rw-,g::r--,m::r--,o::r--", "u::rw-,u:5:r--,g::r--,o::r--", "u::rw-,g::r--,g:5:r--,o::r--", "u::rw-,u:5:r--,g::r--,g:5:r--,o::r--"} {
		fails(t, s)
	}
}

// All lists of up to five parts, of each tag and Ids at the edges.
func TestAllShort(t *testing.T) {
	var parts []api.Ace
	for tag := api.TOwner - 1; tag <= api.TOther+1; tag++ {
		parts = append(parts, ace(tag, 0, 1), ace(tag, 1, 0))
	}
	valid := 0
	var extend func(l []api.Ace, more int)
	extend = func(l []api.Ace, more int) {
		if mayAgrees(t, l) {
			valid++
			good(t, l, wantText(l), Mode(l))
		}
		if more == 0 {
			return
		}
		for _, a := range parts {
			extend(append(l, a), more-1)
		}
	}
	extend(nil, 5)
	// Three parts, or three with a mask and a user or group of two Ids.
	if valid != 5 {
		t.Errorf("9.1: %d valid lists; want 5", valid)
	}
}

func TestWrongTexts(t *testing.T) {
	for _, s := range []string{
		"", ",", ",,", ",,,", ":", "::", ":::", "u", "u:", "u::", "rwx", "u::rwx", "u::rw-,g::r--", " ",
		// A comma too many, or too few.
		",u::rw-,g::r--,o::r--", "u::rw-,g::r--,o::r--,", "u::rw-,,g::r--,o::r--", "u::rw-,g::r--,,o::r--", ",u::rw-,g::r--,o::r--,", "u::rw-g::r--,o::r--", "u::rw-;g::r--;o::r--", "u::rw- g::r-- o::r--",
		// Rights: the wrong place, another letter, too few, too many.
		"u::wr-,g::r--,o::r--", "u::-rw,g::r--,o::r--", "u::xwr,g::r--,o::r--", "u::r-w,g::r--,o::r--", "u::rrr,g::r--,o::r--", "u::rws,g::r--,o::r--", "u::RW-,g::r--,o::r--", "u::rwX,g::r--,o::r--", "u::rw ,g::r--,o::r--", "u::rw_,g::r--,o::r--", "u::rw\x00,g::r--,o::r--", "u::6,g::r--,o::r--",
		"u::rw,g::r--,o::r--", "u::r,g::r--,o::r--", "u::,g::r--,o::r--", "u::rw--,g::r--,o::r--", "u::-rw-,g::r--,o::r--", "u::rwxrwx,g::r--,o::r--", "u::rw-,g::r-,o::r--", "u::rw-,g::r--,o::r-", "u::rw-,g::r--,o::", "u::rw-,g::r--,o::r---", "u::rw-,g::r--,o::r--r",
		// Kinds.
		"U::rw-,g::r--,o::r--", "u::rw-,g::r--,x::r--", "u::rw-,g::r--,O::r--", "::rw-,g::r--,o::r--", "user::rw-,group::r--,other::r--", "uu::rw-,g::r--,o::r--", " ::rw-,u::rw-,g::r--,o::r--", "u::rw-,n::r--,o::r--", "ug::rw-,g::r--,o::r--", "u::rw-,g::r--,o::r--,x::r--", "\x00::rw-,g::r--,o::r--", "1::rw-,3::r--,6::r--",
		// Colons.
		"u:rw-,g::r--,o::r--", "urw-,g::r--,o::r--", "u:::rw-,g::r--,o::r--", "u::rw-:,g::r--,o::r--", ":u::rw-,g::r--,o::r--", "u::rw-,g::r--,o:r--", "u::rw-,u:5rw-,g::r--,m::r--,o::r--", "u::rw-,u5:rw-,g::r--,m::r--,o::r--", "u::rw-,u:5::rw-,g::r--,m::r--,o::r--", "u::rw-,u::5:rw-,g::r--,m::r--,o::r--",
		// Ids.
		"u:05:rw-", "u:0:rw-,g::r--,o::r--", "u:5:rw-,g::r--,o::r--", "u::rw-,g::r--,o:5:r--", "u::rw-,g::r--,o:0:r--", "u::rw-,u:5:r--,g::r--,m:5:r--,o::r--", "u::rw-,u:5:r--,g::r--,m:0:r--,o::r--", "u::rw-,g:5:r--,o::r--",
		"u::rw-,u:05:r--,g::r--,m::r--,o::r--", "u::rw-,u:00:r--,g::r--,m::r--,o::r--", "u::rw-,u:+5:r--,g::r--,m::r--,o::r--", "u::rw-,u:-5:r--,g::r--,m::r--,o::r--", "u::rw-,u:-0:r--,g::r--,m::r--,o::r--", "u::rw-,u:+0:r--,g::r--,m::r--,o::r--", "u::rw-,u:-:r--,g::r--,m::r--,o::r--", "u::rw-,u:-1:r--,g::r--,m::r--,o::r--",
		"u::rw-,u:2147483648:r--,g::r--,m::r--,o::r--", "u::rw-,u:02147483647:r--,g::r--,m::r--,o::r--", "u::rw-,u:21474836470:r--,g::r--,m::r--,o::r--", "u::rw-,u:4294967301:r--,g::r--,m::r--,o::r--", "u::rw-,u:9223372036854775807:r--,g::r--,m::r--,o::r--", "u::rw-,u:9223372036854775808:r--,g::r--,m::r--,o::r--", "u::rw-,u:18446744073709551621:r--,g::r--,m::r--,o::r--", "u::rw-,u:" + strings.Repeat("0", 100) + "5:r--,g::r--,m::r--,o::r--", "u::rw-,u:" + strings.Repeat("9", 100) + ":r--,g::r--,m::r--,o::r--",
		"u::rw-,u:5a:r--,g::r--,m::r--,o::r--", "u::rw-,u:a:r--,g::r--,m::r--,o::r--", "u::rw-,u:0x5:r--,g::r--,m::r--,o::r--", "u::rw-,u:5_0:r--,g::r--,m::r--,o::r--", "u::rw-,u:5.0:r--,g::r--,m::r--,o::r--", "u::rw-,u:1e3:r--,g::r--,m::r--,o::r--", "u::rw-,u: 5:r--,g::r--,m::r--,o::r--", "u::rw-,u:5 :r--,g::r--,m::r--,o::r--", "u::rw-,u:\xd9\xa5:r--,g::r--,m::r--,o::r--", "u::rw-,u:\xff:r--,g::r--,m::r--,o::r--", "u::rw-,u:root:r--,g::r--,m::r--,o::r--",
		"u::rw-,g::r--,g:05:r--,m::r--,o::r--", "u::rw-,g::r--,g:+5:r--,m::r--,o::r--", "u::rw-,g::r--,g:2147483648:r--,m::r--,o::r--", "u::rw-,g::r--,g:-1:r--,m::r--,o::r--",
		// Parts out of order, twice, missing.
		"g::r--,u::rw-,o::r--", "u::rw-,o::r--,g::r--", "o::r--,g::r--,u::rw-", "u::rw-,m:5:r--,g::r--,o::r--", "u::rw-,u::rw-,g::r--,o::r--", "u::rw-,g::r--,g::r--,o::r--", "u::rw-,g::r--,o::r--,o::r--", "g::r--,o::r--", "u::rw-,o::r--", "u::rw-,u:5:r--,u:5:r--,g::r--,m::r--,o::r--", "u::rw-,u:6:r--,u:5:r--,g::r--,m::r--,o::r--", "u::rw-,g::r--,u:5:r--,m::r--,o::r--", "u::rw-,g:5:r--,g::r--,m::r--,o::r--", "u:5:r--,u::rw-,g::r--,m::r--,o::r--", "u::rw-,u:5:r--,m::r--,g::r--,o::r--", "u::rw-,u:5:r--,g::r--,o::r--,m::r--", "u::rw-,u:5:r--,g::r--,m::r--,m::r--,o::r--",
		// Bytes ahead or behind, and others that look like letters.
		"u::rw-,g::r--,o::r--\n", " u::rw-,g::r--,o::r--", "u::rw-, g::r--,o::r--", "u::rw-,g::r--,o::r-- ", "u::rw-,g::r--,o::r--\x00", "\xef\xbb\xbfu::rw-,g::r--,o::r--", "u::rw-\n,g::r--,o::r--", "u::rw-\ng::r--\no::r--", "\xf5::rw-,g::r--,o::r--", "u::r\xf7-,g::r--,o::r--", "\xd1\x83::rw-,g::r--,o::r--", "u::rw\xe2\x80\x93,g::r--,o::r--", "\xef\xbd\x95::rw-,g::r--,o::r--", "u::rw-,g::r--,o::r--#effective",
	} {
		fails(t, s)
		if l, ok := wantParse(s); ok {
			t.Errorf("by the words %q is the text of %v", s, l)
		}
	}
}

// A valid text with one byte or two away, turned, put in or added.
func TestTurnedTexts(t *testing.T) {
	valid := 0
	try := func(s string) {
		if parseAgrees(t, s) {
			valid++
		}
	}
	for _, c := range some {
		for i := range len(c.s) + 1 {
			try(c.s[:i])
			try(c.s[i:])
			for b := range 256 {
				in := string([]byte{byte(b)})
				try(c.s[:i] + in + c.s[i:])
				if i < len(c.s) {
					try(c.s[:i] + in + c.s[i+1:])
				}
			}
			for j := i; j <= len(c.s); j++ {
				try(c.s[:i] + c.s[j:])
				try(c.s[:j] + c.s[i:])
			}
		}
	}
	if valid < 1000 {
		t.Errorf("the test meets %d valid texts", valid)
	}
}

// Texts put together from pieces, and lists from mixed parts.
func TestMixed(t *testing.T) {
	random := rand.New(rand.NewSource(9))
	pieces := []string{"u::rw-", "u:0:r--", "u:5:-w-", "u:05:rwx", "g::r-x", "g:5:---", "g:6:--x", "m::rwx", "o::r--", "x::r--", ""}
	ids := []int{0, 0, 1, 2, 5, most, most + 1, -1}
	met := map[bool]int{}
	for range 200000 {
		var parts []string
		for _, piece := range pieces[:len(pieces)-random.Intn(3)] {
			if random.Intn(3) > 0 {
				parts = append(parts, piece)
			}
		}
		met[parseAgrees(t, strings.Join(parts, ","))]++
		var l []api.Ace
		for _, tag := range []int{1, 2, 2, 3, 4, 4, 5, 6} {
			id := 0
			if hasId(tag) {
				id = ids[random.Intn(len(ids))]
			}
			if random.Intn(5) > 0 {
				l = append(l, ace(tag, id, random.Intn(9)-random.Intn(2)))
			}
		}
		met[mayAgrees(t, l)]++
	}
	if met[true] < 1000 || met[false] < 1000 {
		t.Errorf("the test meets %v", met)
	}
}

func TestFrom(t *testing.T) {
	for mode := range 512 {
		l := list(owner(mode/64), group(mode/8%8), other(mode%8))
		good(t, From(mode), wantText(l), mode)
		if got := From(mode); !slices.Equal(got, l) || !Same(got, l) {
			t.Errorf("9.2: From(%d) = %v; want %v", mode, got, l)
		}
	}
	random := rand.New(rand.NewSource(9))
	for mode := range 512 {
		for _, above := range []int{512, 1024, 2048, 3584, 4096, 1 << 31, 1 << 62, -512, -1024, -4096, -1 << 31, math.MinInt, int(random.Uint64()) &^ 511} {
			if got := From(above + mode); !slices.Equal(got, From(mode)) {
				t.Errorf("9.2: From(%d) = %v; want %v", above+mode, got, From(mode))
			}
			if got := Mode(From(above + mode)); got != mode {
				t.Errorf("9.3: Mode(From(%d)) = %d; want %d", above+mode, got, mode)
			}
		}
	}
	for _, c := range []struct{ mode, rest int }{{-1, 511}, {-2, 510}, {-511, 1}, {-512, 0}, {-513, 511}, {math.MaxInt, 511}, {math.MinInt, 0}, {math.MinInt + 1, 1}, {math.MaxInt - 1, 510}, {4095, 511}, {512, 0}, {2541, 493}} {
		if got := From(c.mode); !slices.Equal(got, From(c.rest)) || Mode(got) != c.rest {
			t.Errorf("9.3: From(%d) = %v; Mode %d", c.mode, got, Mode(got))
		}
	}
}

func TestSame(t *testing.T) {
	same := func(a, b []api.Ace, want bool) {
		t.Helper()
		if Same(a, b) != want || Same(b, a) != want {
			t.Errorf("9.2: Same(%v, %v) = %v, %v; want %v", a, b, Same(a, b), Same(b, a), want)
		}
	}
	same(nil, nil, true)
	same(nil, []api.Ace{}, true)
	same(nil, make([]api.Ace, 0, 5), true)
	same([]api.Ace{}, []api.Ace{}, true)
	same(nil, list(ace(0, 0, 0)), false)
	same([]api.Ace{}, From(0), false)
	// Lists that are not valid.
	same(list(ace(0, 0, 0)), list(ace(0, 0, 0)), true)
	same(list(ace(-1, -2, -3)), list(ace(-1, -2, -3)), true)
	same(list(ace(0, 0, 0)), list(ace(0, 0, 0), ace(0, 0, 0)), false)
	same(list(other(0), owner(1)), list(other(0), owner(1)), true)
	same(list(other(0), owner(1)), list(owner(1), other(0)), false)
	same(list(owner(8)), list(owner(0)), false)
	same(list(owner(0)), list(ace(api.TOwner, 5, 0)), false)
	same(list(ace(math.MinInt, math.MaxInt, 0)), list(ace(math.MinInt, math.MaxInt, 0)), true)
	same(list(ace(math.MinInt, math.MaxInt, 0)), list(ace(math.MinInt, math.MinInt, 0)), false)
	same(make([]api.Ace, 1000), make([]api.Ace, 1000), true)
	same(make([]api.Ace, 1000), make([]api.Ace, 1001), false)
	for i, a := range lists() {
		same(a, a, true)
		same(a, nil, false)
		for j, b := range lists() {
			same(a, b, i == j)
		}
		for k := range a {
			same(a, a[:k], false)
			same(a, append(slices.Clone(a), a[k]), false)
			for _, turn := range []api.Ace{ace(1, 0, 0), ace(0, 1, 0), ace(0, 0, 1), ace(0, 0, -1), ace(0, 0, 8)} {
				b := slices.Clone(a)
				same(a, b, true)
				b[k].Tag += turn.Tag
				b[k].Id += turn.Id
				b[k].Perm += turn.Perm
				same(a, b, false)
			}
		}
	}
}

// R1: whatever is given, nothing panics, and each call ends.
func TestNoPanic(t *testing.T) {
	numbers := []int{math.MinInt, -1 << 31, -1, 0, 1, 2, 3, 6, 7, 8, 1 << 31, math.MaxInt}
	for _, tag := range numbers {
		for _, id := range numbers {
			for _, perm := range numbers {
				for _, l := range [][]api.Ace{{ace(tag, id, perm)}, {owner(perm), ace(tag, id, perm), group(perm), other(perm)}} {
					mayAgrees(t, l)
					Text(l)
					Mode(l)
					Same(l, l)
				}
			}
		}
	}
	Text(nil)
	Mode(nil)
	long := make([]api.Ace, 1<<20)
	may(t, long, false)
	Text(long)
	Mode(long)
	for _, s := range []string{"u::rw-,", ",", ":", "u", "9", "u:9", "\x00"} {
		fails(t, strings.Repeat(s, 1<<20))
		fails(t, "u::rw-,u:"+strings.Repeat(s, 1<<20)+":rw-,g::r--,m::r--,o::r--")
		fails(t, "u::rw-,g::r--,o::r--,"+strings.Repeat(s, 1<<20))
	}
}

// R3: arguments stay as they are, and answers share no memory.
func TestNewMemory(t *testing.T) {
	for _, l := range lists() {
		before := slices.Clone(l)
		s := wantText(l)
		May(l)
		Text(l)
		Mode(l)
		Same(l, l[:1])
		if !slices.Equal(l, before) {
			t.Errorf("R3: %v was %v", l, before)
		}
		a, _ := Parse(s)
		b, _ := Parse(s)
		scribble(a)
		if !slices.Equal(b, before) {
			t.Errorf("R3: two lists of Parse share memory: %v", b)
		}
		parses(t, s, before, true)
		if unsafe.StringData(Text(l)) == unsafe.StringData(Text(l)) {
			t.Errorf("R3: two texts of %v share memory", l)
		}
	}
	for mode := range 512 {
		a, b := From(mode), From(mode)
		scribble(a)
		if Mode(b) != mode || Mode(From(mode)) != mode {
			t.Errorf("R3: two lists of From share memory: %v", b)
		}
	}
}

// scribble writes over a list and its spare capacity.
func scribble(l []api.Ace) {
	l = l[:cap(l)]
	for i := range l {
		l[i] = ace(-1, -1, -1)
	}
}

// R4: beside false there is no list.
func TestNoList(t *testing.T) {
	for _, s := range []string{"", "u::rw-", "u::rw-,g::r--,o::r-", "u::rw-,g::r--,m::r--,o::r--", strings.Repeat("u::rw-,", 1000)} {
		if l, ok := Parse(s); len(l) != 0 || cap(l) != 0 || ok {
			t.Errorf("R4: Parse(%.60q) = %v of %d, %v", s, l, cap(l), ok)
		}
	}
}

// The way of the chapter: text that is not a part panics inside, and with
// nothing but what is meant for it.
func TestWay(t *testing.T) {
	for _, c := range []struct {
		s string
		a api.Ace
	}{
		{"u::rw-", owner(6)}, {"u:5:r-x", user(5, 5)}, {"g::---", group(0)}, {"g:0:rwx", named(0, 7)}, {"m::--x", mask(1)}, {"o::-w-", other(2)}, {"u:2147483648:rwx", user(most+1, 7)},
		{"", ace(0, 0, 0)}, {"u", ace(0, 0, 0)}, {"u:", ace(0, 0, 0)}, {"u::", ace(0, 0, 0)}, {"u::rw", ace(0, 0, 0)}, {"u::rw--", ace(0, 0, 0)}, {"u::wr-", ace(0, 0, 0)}, {"x::rwx", ace(0, 0, 0)}, {" ::rwx", ace(0, 0, 0)}, {"m:5:rwx", ace(0, 0, 0)}, {"o:0:rwx", ace(0, 0, 0)}, {"u:x:rwx", ace(0, 0, 0)}, {"u:05:rwx", ace(0, 0, 0)}, {"u:99999999999999999999:rwx", ace(0, 0, 0)}, {":::", ace(0, 0, 0)}, {"u::rwx,", ace(0, 0, 0)},
	} {
		func() {
			defer func() {
				got := recover()
				if _, is := got.(noList); is != (c.a.Tag == 0) || got != nil && !is {
					t.Errorf("9, Ways: the parsing of %q panics with %s", c.s, reflect.TypeOf(got))
				}
			}()
			if got := parsePart(c.s); got != c.a {
				t.Errorf("9, Ways: the parsing of %q gives %v", c.s, got)
			}
		}()
	}
}

func FuzzParse(f *testing.F) {
	for _, l := range lists() {
		f.Add(wantText(l))
		f.Add("," + wantText(l) + ",")
	}
	f.Fuzz(func(t *testing.T, s string) {
		if parseAgrees(t, s) {
			l, _ := Parse(s)
			good(t, l, s, Mode(l))
		}
	})
}

func FuzzMay(f *testing.F) {
	for _, l := range lists() {
		var b []byte
		for _, a := range l {
			b = append(b, byte(a.Tag), byte(min(a.Id, 255)), byte(a.Perm))
		}
		f.Add(b)
	}
	// Ids around 0 and around the greatest one.
	id := func(b byte) int {
		if b < 128 {
			return int(b) - 1
		}
		return most - 254 + int(b)
	}
	f.Fuzz(func(t *testing.T, b []byte) {
		var l []api.Ace
		for ; len(b) >= 3; b = b[3:] {
			a := ace(int(int8(b[0])), 0, int(int8(b[2])))
			if b[1] > 0 {
				a.Id = id(b[1])
			}
			l = append(l, a)
		}
		if mayAgrees(t, l) {
			good(t, l, wantText(l), Mode(l))
		}
	})
}
