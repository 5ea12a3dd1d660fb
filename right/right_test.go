package right

import (
	"math"
	"testing"

	"gripsack/acl"
	"gripsack/api"
)

// who is somebody without powers.
func who(uid, gid int, groups ...int) api.Cred {
	return api.Cred{Uid: uid, Gid: gid, Groups: groups}
}

func with(c api.Cred, powers int) api.Cred {
	c.Powers = powers
	return c
}

// plain is a node of the user 5 and the group 50 without a list.
func plain(mode int) api.Meta { return api.Meta{Mode: mode, Uid: 5, Gid: 50} }

// listed is a node of the user 5 and the group 50 whose list has a text.
func listed(t *testing.T, s string) api.Meta {
	t.Helper()
	l, ok := acl.Parse(s)
	if !ok {
		t.Fatalf("%s is no list", s)
	}
	m := plain(acl.Mode(l))
	m.Acl = l
	return m
}

func checkCan(t *testing.T, m api.Meta, c api.Cred, want int, can bool) {
	t.Helper()
	if Can(m, c, want) != can {
		t.Errorf("18.2: Can is %t for %s, want %d", !can, shown(m, c), want)
	}
	if words, _ := wantCan(m, c, want); words != can {
		t.Errorf("the words say %t for %s, want %d", words, shown(m, c), want)
	}
}

// checkPerms holds Can for each want against the digits of those that are granted.
func checkPerms(t *testing.T, m api.Meta, c api.Cred, wants string) {
	t.Helper()
	for want := range 8 {
		can := false
		for _, d := range wants {
			can = can || int(d-'0') == want
		}
		checkCan(t, m, c, want, can)
	}
}

// The wants that a Perm grants.
var granting = [8]string{"0", "01", "02", "0123", "04", "0145", "0246", "01234567"}

func TestExamples(t *testing.T) {
	c := who(1, 2, 3, 4)
	if !In(c, 2) || !In(c, 3) || !In(c, 4) || In(c, 1) {
		t.Error("18.1: the example of In")
	}
	if !Can(api.Meta{Mode: 256}, api.Cred{}, 4) || !Can(api.Meta{Mode: 256, Uid: 9, Gid: 8}, who(9, 7), 4) {
		t.Error("18.2: the example of Can")
	}
	if Owner(api.Meta{Uid: 1}, who(2, 1)) {
		t.Error("18.1: the example of Owner")
	}
	m := api.Meta{Acl: aces(ace(1, 0, 7), ace(2, 5, 6), ace(3, 0, 7), ace(5, 0, 4), ace(6, 0, 7))}
	if n := Less(m); n != 0o744 {
		t.Errorf("18.3: the example of Less: %o", n)
	}
}

func TestIn(t *testing.T) {
	const most, least = math.MaxInt, math.MinInt
	for i, c := range []struct {
		c   api.Cred
		gid int
		in  bool
	}{
		{who(1, 2), 2, true}, {who(1, 2), 1, false}, {who(1, 2), 0, false}, {who(1, 2), 3, false},
		{api.Cred{}, 0, true}, {api.Cred{}, 1, false}, {api.Cred{Groups: []int{}}, 0, true},
		{who(1, 2, 3), 2, true}, {who(1, 2, 3), 3, true}, {who(1, 2, 3), 1, false}, {who(1, 2, 0), 0, true},
		{who(1, 2, 2), 2, true}, {who(1, 2, 2, 3), 3, true}, {who(1, 2, 3, 3), 3, true},
		{who(1, 2, 9, 4, 7), 9, true}, {who(1, 2, 9, 4, 7), 4, true}, {who(1, 2, 9, 4, 7), 7, true}, {who(1, 2, 9, 4, 7), 5, false},
		{with(who(1, 2), 127), 3, false}, {with(who(1, 2), -1), 1, false},
		{who(1, 2, 3), -1, false}, {who(1, 2, 3), -2, false}, {who(1, 2, 3), -3, false},
		{who(1, 2, 3), most, false}, {who(1, 2, 3), least, false}, {who(1, 2, 3), 2 + 1<<32, false}, {who(1, 2, 3), 3 - 1<<32, false},
		{who(1, 1<<31-1, 3), 1<<31 - 1, true}, {who(1, 2, 1<<31-1), 1<<31 - 1, true},
		// Numbers that nobody has by rights are still compared as they are.
		{who(1, -1), -1, true}, {who(1, 2, -7), -7, true}, {who(1, most), most, true}, {who(1, 2, least), least, true},
	} {
		if In(c.c, c.gid) != c.in || wantIn(c.c, c.gid) != c.in {
			t.Errorf("18.1: In, case %d: %t", i, !c.in)
		}
	}
}

func TestOwner(t *testing.T) {
	const most, least = math.MaxInt, math.MinInt
	for i, c := range []struct {
		uid int
		c   api.Cred
		is  bool
	}{
		{5, who(5, 1), true}, {5, who(6, 1), false}, {5, who(6, 5, 5), false}, {0, api.Cred{}, true}, {5, api.Cred{}, false}, {0, who(1, 0), false},
		{5, with(who(6, 1), 4), true}, {5, with(who(6, 1), 127), true}, {5, with(who(6, 1), 127-4), false}, {5, with(who(6, 1), 2), false}, {5, with(who(6, 1), 1), false}, {5, with(who(6, 1), 8), false}, {5, with(who(6, 1), 16), false}, {5, with(who(6, 1), 32), false}, {5, with(who(6, 1), 64), false}, {5, with(who(6, 1), 128), false},
		{5, with(who(5, 1), 4), true}, {5, with(who(5, 1), 127-4), true}, {5, with(who(6, 1), 4|1<<40), true}, {5, with(who(6, 1), 1<<40), false},
		{-1, who(1, 1), false}, {-5, who(5, 1), false}, {5, who(-5, 1), false}, {5, who(5+1<<32, 1), false}, {most, who(least, 1), false}, {-1, who(-1, 1), true}, {most, who(most, 1), true},
	} {
		// No list is asked about the owner.
		for _, acl := range [][]api.Ace{nil, aces(ace(owner, 0, 0), ace(user, 6, 7), ace(group, 0, 7), ace(mask, 0, 7), ace(other, 0, 7)), aces(ace(user, 6, 7))} {
			if Owner(api.Meta{Mode: 0o777, Uid: c.uid, Gid: 1, Acl: acl}, c.c) != c.is {
				t.Errorf("18.1: Owner, case %d: %t", i, !c.is)
			}
		}
	}
}

// Modes of which each digit is asked by itself.
func TestCanMode(t *testing.T) {
	for perm := range 8 {
		for _, rest := range []int{0, 7, 5} {
			m := plain(64*perm + 9*rest)
			checkPerms(t, m, who(5, 50), granting[perm])
			checkPerms(t, m, who(5, 1), granting[perm])
			m = plain(8*perm + 65*rest)
			checkPerms(t, m, who(6, 50), granting[perm])
			checkPerms(t, m, who(6, 1, 2, 50), granting[perm])
			checkPerms(t, m, who(6, 50, 50), granting[perm])
			m = plain(perm + 72*rest)
			checkPerms(t, m, who(6, 1), granting[perm])
			checkPerms(t, m, who(6, 5, 6, 7), granting[perm])
		}
	}
}

// Bits above the lowest 9 grant nothing and take nothing away.
func TestCanModeBits(t *testing.T) {
	for _, high := range []int{512, 1024, 2048, 0o7000, 1 << 12, 1 << 40, 0o777 << 9, math.MinInt, -512} {
		for mode, wants := range map[int][3]string{
			0:     {granting[0], granting[0], granting[0]},
			0o421: {granting[4], granting[2], granting[1]},
			0o777: {granting[7], granting[7], granting[7]},
		} {
			m := plain(mode | high)
			checkPerms(t, m, who(5, 50), wants[0])
			checkPerms(t, m, who(6, 50), wants[1])
			checkPerms(t, m, who(6, 1), wants[2])
			if n := Less(m); n != mode {
				t.Errorf("18.3: Less of the mode %o: %o", mode|high, n)
			}
		}
	}
}

// A list is asked, and the mode is not.
func TestCanList(t *testing.T) {
	three := listed(t, "u::r-x,g::-w-,o::--x")
	for _, mode := range []int{0, 0o777, 0o521} {
		three.Mode = mode
		checkPerms(t, three, who(5, 1), granting[5])
		checkPerms(t, three, who(6, 50), granting[2])
		checkPerms(t, three, who(6, 1), granting[1])
	}
	m := listed(t, "u::r-x,u:7:rw-,u:9:-wx,g::r-x,g:60:-w-,g:70:rwx,m::rw-,o::--x")
	for i, c := range []struct {
		c     api.Cred
		wants string
	}{
		{who(5, 1), granting[5]}, // a mask takes nothing from the owner
		{who(7, 1), granting[6]}, {who(9, 1), granting[2]},
		{who(8, 50), granting[4]}, {who(8, 1, 50), granting[4]},
		{who(8, 60), granting[2]}, {who(8, 1, 60), granting[2]}, {who(8, 70), granting[6]},
		{who(8, 1), granting[1]}, {who(8, 1, 2, 3), granting[1]}, // nor from the others
	} {
		for _, mode := range []int{0, 0o777, 0o521} {
			m.Mode = mode
			checkPerms(t, m, c.c, c.wants)
		}
		if t.Failed() {
			t.Fatal("case", i)
		}
	}
}

// An empty list that is not nil is none.
func TestEmptyList(t *testing.T) {
	m := plain(0o640)
	for _, l := range [][]api.Ace{nil, {}, make([]api.Ace, 0, 9), listed(t, "u::---,g::rwx,o::rwx").Acl[:0]} {
		m.Acl = l
		checkPerms(t, m, who(5, 1), granting[6])
		checkPerms(t, m, who(6, 50), granting[4])
		checkPerms(t, m, who(6, 1), granting[0])
		if n := Less(m); n != 0o640 {
			t.Errorf("18.3: Less with an empty list: %o", n)
		}
	}
}

// The first rule that applies decides, though a later one would grant more.
func TestFirstRule(t *testing.T) {
	for _, c := range []struct {
		list string
		c    api.Cred
		perm int
	}{
		// The owner is named, and a member of all groups, too.
		{"u::---,u:5:rwx,g::rwx,g:60:rwx,m::rwx,o::rwx", who(5, 50, 60), 0},
		{"u::--x,u:5:rwx,g::rwx,g:60:rwx,m::rwx,o::rwx", who(5, 50, 60), 1},
		{"u::rwx,u:5:---,g::---,g:60:---,m::---,o::---", who(5, 50, 60), 7},
		{"u::r--,u:5:-w-,g::--x,m::rwx,o::rwx", who(5, 50), 4},
		// One who is named is a member of all groups.
		{"u::rwx,u:7:---,g::rwx,g:60:rwx,m::rwx,o::rwx", who(7, 50, 60), 0},
		{"u::rwx,u:7:-w-,g::rwx,g:60:rwx,m::rwx,o::rwx", who(7, 60, 50), 2},
		{"u::---,u:7:rwx,g::---,g:60:---,m::rwx,o::---", who(7, 60, 50), 7},
		{"u::rwx,u:7:rwx,g::rwx,m::---,o::rwx", who(7, 50), 0},
		{"u::rwx,u:7:rw-,g::rwx,m::-wx,o::rwx", who(7, 1), 2},
		{"u::rwx,u:7:r--,g::rwx,m::-wx,o::rwx", who(7, 50), 0},
		// A member of a group is none of the others.
		{"u::rwx,g::---,o::rwx", who(8, 50), 0},
		{"u::rwx,g::r--,o::rwx", who(8, 1, 50), 4},
		{"u::rwx,g::rwx,g:60:---,m::rwx,o::rwx", who(8, 60), 0},
		{"u::rwx,g::rwx,g:60:rwx,m::---,o::rwx", who(8, 60, 50), 0},
		{"u::rwx,g::rwx,g:60:rwx,m::r-x,o::rwx", who(8, 1, 60), 5},
		// A number means another thing among users than among groups.
		{"u::---,u:50:rwx,g::r--,m::rwx,o::--x", who(8, 50), 4},
		{"u::---,g::---,g:7:rwx,m::rwx,o::--x", who(7, 1), 1},
		{"u::---,g::---,g:5:rwx,m::rwx,o::--x", who(5, 1), 0},
		{"u::rwx,u:0:rw-,g::---,g:0:r--,m::rwx,o::--x", who(8, 1), 1},
		{"u::rwx,u:0:rw-,g::---,g:0:r--,m::rwx,o::--x", who(0, 1), 6},
		{"u::rwx,u:0:rw-,g::---,g:0:r--,m::rwx,o::--x", who(8, 0), 4},
		// The group of the node is named, too.
		{"u::rwx,g::r--,g:50:-w-,m::rwx,o::---", who(8, 60), 0},
	} {
		checkPerms(t, listed(t, c.list), c.c, granting[c.perm])
	}
}

// Each group is asked for all rights at once.
func TestGroups(t *testing.T) {
	for _, c := range []struct {
		list  string
		c     api.Cred
		wants string
	}{
		{"u::---,g::r--,g:60:-w-,m::rwx,o::rwx", who(8, 50, 60), "024"},
		{"u::---,g::r--,g:60:-w-,m::rwx,o::rwx", who(8, 60, 50), "024"},
		{"u::---,g::---,g:60:r--,g:70:--x,m::rwx,o::rwx", who(8, 1, 60, 70), "014"},
		{"u::---,g::-wx,g:60:rw-,g:70:r-x,m::rwx,o::rwx", who(8, 50, 60, 70), "0123456"},
		{"u::---,g::-wx,g:60:rw-,g:70:r-x,m::rwx,o::rwx", who(8, 70, 60), "012456"},
		{"u::---,g::-wx,g:60:rw-,g:70:r-x,m::r-x,o::rwx", who(8, 50, 60, 70), "0145"},
		{"u::---,g::-wx,g:60:rw-,g:70:r-x,m::rw-,o::rwx", who(8, 50, 60, 70), "0246"},
		{"u::---,g::r--,g:50:-w-,m::rwx,o::---", who(8, 50), "024"},
		{"u::---,g::---,g:60:---,g:70:rwx,m::rwx,o::---", who(8, 60, 70), granting[7]},
		{"u::---,g::---,g:60:rwx,g:70:---,m::rwx,o::---", who(8, 70, 60), granting[7]},
		{"u::---,g::rwx,g:60:---,g:70:---,m::rwx,o::---", who(8, 60, 70, 50), granting[7]},
		// One group, twice: the Gid is one of the Groups, too.
		{"u::---,g::r--,g:60:-w-,m::rwx,o::rwx", who(8, 60, 60), "02"},
		{"u::---,g::r--,g:60:-w-,m::rwx,o::rwx", who(8, 50, 50), "04"},
		// No group has a part.
		{"u::rwx,g::rwx,g:60:rwx,m::rwx,o::-w-", who(8, 61, 59, 51, 49), "02"},
	} {
		checkPerms(t, listed(t, c.list), c.c, c.wants)
	}
}

func TestPowers(t *testing.T) {
	nothing := listed(t, "u::---,u:7:---,g::---,g:60:---,m::---,o::---")
	for _, m := range []api.Meta{plain(0), plain(0o7000), nothing} {
		for _, c := range []api.Cred{who(5, 1), who(6, 50), who(6, 60), who(7, 1), who(8, 1)} {
			for _, powers := range []int{2, 3, 127, 2 | 1<<20, -1} {
				checkPerms(t, m, with(c, powers), granting[7])
			}
			for _, powers := range []int{0, 1, 4, 8, 16, 32, 64, 127 - 2, 128, 1 << 20, -3} {
				checkPerms(t, m, with(c, powers), granting[0])
			}
		}
	}
	for _, powers := range []int{1, 4, 8, 16, 32, 64, 127 - 2} {
		// Who does what an owner may isn't the owner.
		checkPerms(t, plain(0o700), with(who(6, 1), powers), granting[0])
		checkPerms(t, plain(0o077), with(who(5, 50), powers), granting[0])
		checkPerms(t, plain(0o040), with(who(6, 50), powers), granting[4])
	}
}

// No other wants than 0 to 7 are granted, to whomever.
func TestWrongWants(t *testing.T) {
	m := listed(t, "u::rwx,u:7:rwx,g::rwx,g:60:rwx,m::rwx,o::rwx")
	for _, m := range []api.Meta{plain(0o777), plain(-1), m} {
		for _, c := range []api.Cred{who(5, 1), who(6, 50), who(6, 60), who(7, 1), who(8, 1), with(who(8, 1), 2), with(who(8, 1), 127), with(who(5, 1), -1)} {
			for _, want := range []int{-1, -2, -7, -8, 8, 9, 15, 16, 64, 4 << 3, 1 << 31, 1 << 32, 1<<32 + 4, -1 << 32, math.MaxInt, math.MinInt, math.MinInt + 4} {
				checkCan(t, m, c, want, false)
			}
			checkPerms(t, m, c, granting[7])
		}
	}
}

// Numbers that nobody has lead to what the others may.
func TestStrangers(t *testing.T) {
	m := listed(t, "u::rw-,u:0:rw-,u:7:rw-,g::rw-,g:0:rw-,g:60:rw-,m::rw-,o::--x")
	far := []int{-1, -5, -7, -50, -60, 1 << 31, 5 + 1<<32, 7 + 1<<32, 50 + 1<<32, math.MaxInt, math.MinInt}
	for _, uid := range far {
		for _, gid := range far {
			checkPerms(t, m, who(uid, gid, far...), granting[1])
			checkPerms(t, plain(0o661), who(uid, gid, far...), granting[1])
		}
	}
	// And a node whose owner and group nobody is.
	for _, n := range far {
		m.Uid, m.Gid = n, n
		checkPerms(t, m, who(5, 50), granting[1])
		checkPerms(t, api.Meta{Mode: 0o661, Uid: n, Gid: n}, who(5, 50), granting[1])
		checkPerms(t, api.Meta{Mode: 0o610, Uid: n, Gid: n}, who(n, 50), granting[6])
		checkPerms(t, api.Meta{Mode: 0o061, Uid: 1, Gid: n}, who(5, 50, n), granting[6])
	}
}

func TestLess(t *testing.T) {
	for _, c := range []struct {
		list string
		less int
	}{
		{"u::---,g::---,o::---", 0}, {"u::rwx,g::rwx,o::rwx", 0o777}, {"u::r--,g::-w-,o::--x", 0o421}, {"u::--x,g::r--,o::-w-", 0o142},
		// Of the users and of the mask the group and the others have no more.
		{"u::rwx,u:7:rwx,g::rwx,m::rwx,o::rwx", 0o777},
		{"u::rwx,u:7:rw-,g::rwx,m::rwx,o::rwx", 0o766},
		{"u::rwx,u:7:rwx,g::rwx,m::rw-,o::rwx", 0o766},
		{"u::rwx,u:7:rw-,g::rwx,m::r--,o::rwx", 0o744},
		{"u::rwx,u:7:rw-,g::rwx,m::-wx,o::rwx", 0o722},
		{"u::rwx,u:7:r--,u:8:-w-,g::rwx,m::rwx,o::rwx", 0o700},
		{"u::rwx,u:7:r-x,u:8:rw-,u:9:rwx,g::rwx,m::rwx,o::rwx", 0o744},
		{"u::rwx,u:7:rwx,u:8:rwx,u:9:--x,g::rwx,m::rwx,o::rwx", 0o711},
		{"u::rwx,u:7:--x,g::r--,m::rwx,o::-w-", 0o700},
		// Of the named groups the others alone have no more.
		{"u::rwx,g::rwx,g:60:---,m::rwx,o::rwx", 0o770},
		{"u::rwx,g::rwx,g:60:r-x,m::rwx,o::rwx", 0o775},
		{"u::rwx,g::rwx,g:60:r-x,g:70:-wx,m::rwx,o::rwx", 0o771},
		{"u::rwx,g::rwx,g:60:rwx,g:70:rwx,g:80:r--,m::rwx,o::rwx", 0o774},
		{"u::rwx,g::rwx,g:60:rwx,m::r--,o::rwx", 0o744},
		{"u::rwx,g::rw-,g:60:rwx,m::-wx,o::r-x", 0o721},
		// Whom the owner's part is for, nobody else is.
		{"u::---,u:7:rwx,g::rwx,g:60:rwx,m::rwx,o::rwx", 0o077},
		{"u::rwx,u:7:---,g::---,g:60:---,m::---,o::---", 0o700},
		// No right comes from a part that is not the class's own.
		{"u::---,u:7:rwx,g::---,g:60:rwx,m::rwx,o::---", 0},
		{"u::---,u:7:rwx,g::r--,g:60:rwx,m::rwx,o::--x", 0o041},
		// All of them.
		{"u::r-x,u:7:rwx,u:8:rw-,g::rwx,g:60:r-x,g:70:rwx,m::rw-,o::rwx", 0o564},
		{"u::-w-,u:7:rwx,u:8:-wx,g::r-x,g:60:r-x,g:70:--x,m::-wx,o::rwx", 0o211},
	} {
		m := listed(t, c.list)
		for _, mode := range []int{m.Mode, 0, 0o7777, -1} {
			m.Mode = mode
			if n := Less(m); n != c.less || wantLess(m) != c.less {
				t.Errorf("18.3: Less of %s: %o, not %o (the words: %o)", c.list, n, c.less, wantLess(m))
			}
		}
	}
}

// Less of a mode alone, whoever's the node is.
func TestLessMode(t *testing.T) {
	for mode := range 4096 {
		for _, m := range []api.Meta{{Mode: mode}, {Mode: mode - 4096, Uid: 5, Gid: 50}, {Mode: mode, Default: acl.From(0), Flags: 3}} {
			if n := Less(m); n != mode%512 || wantLess(m) != n {
				t.Fatalf("18.3: Less of the mode %o: %o", m.Mode, n)
			}
		}
	}
}
