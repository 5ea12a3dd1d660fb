package right

import (
	"iter"
	"slices"
	"testing"

	"gripsack/acl"
	"gripsack/api"
)

// The lists below are of a node of the user 1 and the group 1, and their parts
// are for the users 2 and 3, and for the groups 2 and 3.
const (
	two   = 2
	three = 3
)

// shape is a list whose Perms are 0, with the users and groups that are named.
func shape(users, groups []int) []api.Ace {
	l := aces(ace(owner, 0, 0))
	for _, id := range users {
		l = append(l, ace(user, id, 0))
	}
	l = append(l, ace(group, 0, 0))
	for _, id := range groups {
		l = append(l, ace(named, id, 0))
	}
	if len(users)+len(groups) > 0 {
		l = append(l, ace(mask, 0, 0))
	}
	return append(l, ace(other, 0, 0))
}

// every gives l with all Perms below a number in its parts from an index on. It
// is the same memory each time.
func every(l []api.Ace, from, perms int) iter.Seq[[]api.Ace] {
	return func(yield func([]api.Ace) bool) {
		l := slices.Clone(l)
		for yield(l) {
			i := from
			for i < len(l) && l[i].Perm == perms-1 {
				l[i].Perm = 0
				i++
			}
			if i == len(l) {
				return
			}
			l[i].Perm++
		}
	}
}

// everyone is somebody of each sort: the owner, those whom a part is for, and
// others, in no group, in one and in more of them.
func everyone() []api.Cred {
	l := []api.Cred{who(1, 9), who(1, 1, 2, 3)}
	for _, uid := range []int{2, 3, 9} {
		l = append(l, who(uid, 9), who(uid, 1), who(uid, 2), who(uid, 9, 3), who(uid, 1, 2), who(uid, 2, 3), who(uid, 9, 3, 2, 1))
	}
	return l
}

// 18.4, for all lists of a few parts with all rights, and for everyone.
func TestNeverMore(t *testing.T) {
	for _, c := range []struct {
		l           []api.Ace
		from, perms int
	}{
		{shape(nil, nil), 0, 8},
		{shape([]int{two}, nil), 0, 8},
		{shape(nil, []int{two}), 0, 8},
		{shape([]int{two}, []int{two}), 1, 8},
		{shape([]int{two, three}, nil), 1, 8},
		{shape(nil, []int{two, three}), 1, 8},
		// Two rights suffice for one to be granted here and one there.
		{shape([]int{two, three}, []int{two, three}), 1, 4},
	} {
		if !acl.May(c.l) {
			t.Fatal("no list:", c.l)
		}
		who := everyone()
		for l := range every(c.l, c.from, c.perms) {
			neverMore(t, l, who, c.perms)
		}
	}
}

func neverMore(t *testing.T, l []api.Ace, who []api.Cred, wants int) {
	m := api.Meta{Uid: 1, Gid: 1, Acl: l}
	bare := api.Meta{Uid: 1, Gid: 1, Mode: Less(m)}
	if bare.Mode != wantLess(m) {
		t.Fatalf("18.3: Less of %s: %o, not %o", shown(m, api.Cred{}), bare.Mode, wantLess(m))
	}
	for _, c := range who {
		for want := range wants {
			if Can(bare, c, want) && !Can(m, c, want) {
				t.Fatalf("18.4: %o grants more than %s, want %d", bare.Mode, shown(m, c), want)
			}
		}
	}
}

// Can for all lists of a few parts: in greater ones with a few rights alone, so
// that not too many are tried.
func TestEvery(t *testing.T) {
	rules := map[int]int{}
	for _, c := range []struct {
		l           []api.Ace
		from, perms int
	}{
		{shape(nil, nil), 0, 8},
		{shape([]int{two}, nil), 1, 8},
		{shape(nil, []int{two}), 1, 8},
		{shape([]int{two}, []int{two}), 1, 4},
		{shape(nil, []int{two, three}), 1, 4},
		{shape([]int{two, three}, []int{two}), 1, 3},
	} {
		who := everyone()
		for l := range every(c.l, c.from, c.perms) {
			m := api.Meta{Uid: 1, Gid: 1, Acl: l}
			for _, c := range who {
				for want := range 8 {
					can, rule := wantCan(m, c, want)
					if Can(m, c, want) != can {
						t.Fatalf("18.2: Can is %t for %s, want %d (rule %d)", !can, shown(m, c), want, rule)
					}
					rules[rule]++
				}
			}
		}
	}
	for rule := 2; rule <= 5; rule++ {
		if rules[rule] < 1000 {
			t.Errorf("rule %d decided %d times", rule, rules[rule])
		}
	}
}

// All modes, without a list and with the list that is the same.
func TestEveryMode(t *testing.T) {
	for mode := range 512 {
		bare := api.Meta{Mode: mode, Uid: 1, Gid: 1}
		m := api.Meta{Uid: 1, Gid: 1, Acl: acl.From(mode)}
		if n := Less(m); n != mode {
			t.Fatalf("18.3: Less of the list of the mode %o: %o", mode, n)
		}
		for _, c := range everyone() {
			for want := -1; want <= 8; want++ {
				can, _ := wantCan(bare, c, want)
				if Can(bare, c, want) != can || Can(m, c, want) != can {
					t.Fatalf("18.2: Can isn't %t for %s, want %d", can, shown(bare, c), want)
				}
			}
		}
	}
}
