package right

import (
	"fmt"
	"strings"

	"gripsack/api"
)

// The tags and the powers, written out.
const (
	owner = 1
	user  = 2
	group = 3
	named = 4
	mask  = 5
	other = 6

	powerAll   = 2
	powerOwner = 4
)

func ace(tag, id, perm int) api.Ace { return api.Ace{Tag: tag, Id: id, Perm: perm} }

func aces(l ...api.Ace) []api.Ace { return l }

func bit(n, value int) bool { return n>>value&1 == 1 }

// wantIn is what In answers, by the words of the chapter.
func wantIn(c api.Cred, gid int) bool {
	for _, g := range append([]int{c.Gid}, c.Groups...) {
		if g == gid {
			return true
		}
	}
	return false
}

// wantGrants tells whether a part grants want: one bit after another.
func wantGrants(a api.Ace, want int) bool {
	for i := range 3 {
		if bit(want, i) && !bit(a.Perm, i) {
			return false
		}
	}
	return true
}

// wantList is the list that decides: that of the metadata, or that of the mode.
func wantList(m api.Meta) []api.Ace {
	if len(m.Acl) > 0 {
		return m.Acl
	}
	mode := (m.Mode%512 + 512) % 512
	return aces(ace(owner, 0, mode/64), ace(group, 0, mode/8%8), ace(other, 0, mode%8))
}

// some returns the parts with a tag, whether or not there are any.
func some(l []api.Ace, tag int) []api.Ace {
	var found []api.Ace
	for _, a := range l {
		if a.Tag == tag {
			found = append(found, a)
		}
	}
	return found
}

func all(l []api.Ace, want int) bool {
	for _, a := range l {
		if !wantGrants(a, want) {
			return false
		}
	}
	return true
}

func one(l []api.Ace, want int) bool {
	for _, a := range l {
		if wantGrants(a, want) {
			return true
		}
	}
	return false
}

// rule is a rule of 18.2: whether it applies, and what it answers then.
type rule struct{ applies, answer bool }

// wantRules are the five rules for a valid list, in their order.
func wantRules(m api.Meta, c api.Cred, want int) []rule {
	l := wantList(m)
	var mine, ours []api.Ace
	for _, a := range some(l, user) {
		if a.Id == c.Uid {
			mine = append(mine, a)
		}
	}
	if wantIn(c, m.Gid) {
		ours = some(l, group)
	}
	for _, a := range some(l, named) {
		if wantIn(c, a.Id) {
			ours = append(ours, a)
		}
	}
	left := all(some(l, mask), want)
	return []rule{
		{c.Powers&powerAll != 0, true},
		{m.Uid == c.Uid, all(some(l, owner), want)},
		{len(mine) > 0, all(mine, want) && left},
		{len(ours) > 0, one(ours, want) && left},
		{true, all(some(l, other), want)},
	}
}

// wantCan is what Can answers for a valid list, by the words of the chapter, and
// the number of the rule that decides: 0 is none.
func wantCan(m api.Meta, c api.Cred, want int) (bool, int) {
	if want < 0 || want > 7 {
		return false, 0
	}
	for i, r := range wantRules(m, c, want) {
		if r.applies {
			return r.answer, i + 1
		}
	}
	panic("no rule")
}

// wantLess is what Less answers for a valid list, by the words of the chapter:
// one bit after another.
func wantLess(m api.Meta) int {
	l := wantList(m)
	users := append(some(l, mask), some(l, user)...)
	everyone := append(some(l, named), users...)
	n := 0
	for i := range 3 {
		right := 1 << i
		if all(some(l, owner), right) {
			n += 64 * right
		}
		if all(append(some(l, group), users...), right) {
			n += 8 * right
		}
		if all(append(some(l, other), everyone...), right) {
			n += right
		}
	}
	return n
}

func shown(m api.Meta, c api.Cred) string {
	var s []string
	for _, a := range m.Acl {
		s = append(s, fmt.Sprintf("%d/%d:%o", a.Tag, a.Id, a.Perm))
	}
	return fmt.Sprintf("%o of %d and %d [%s], user %d, groups %d and %d, powers %d",
		m.Mode, m.Uid, m.Gid, strings.Join(s, " "), c.Uid, c.Gid, c.Groups, c.Powers)
}
