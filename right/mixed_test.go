package right

import (
	"math"
	"math/rand"
	"reflect"
	"slices"
	"strings"
	"sync"
	"testing"

	"gripsack/acl"
	"gripsack/api"
)

func pick[T any](random *rand.Rand, l ...T) T { return l[random.Intn(len(l))] }

// someone's number is often one that others have as well.
func someone(random *rand.Rand) int {
	if random.Intn(30) == 0 {
		return pick(random, -1, 1<<31-1, 1<<31, math.MaxInt, math.MinInt)
	}
	return random.Intn(5)
}

// ids are ascending numbers below a greatest one.
func ids(random *rand.Rand, most int) []int {
	var l []int
	for id := range most {
		if random.Intn(2) == 0 {
			l = append(l, id)
		}
	}
	return l
}

func mixedList(random *rand.Rand) []api.Ace {
	l := shape(ids(random, 4), ids(random, 4))
	if random.Intn(20) == 0 {
		l = shape(ids(random, 26), nil)
	}
	// Parts that grant much, so that more than nothing is often granted at all.
	lavish := random.Intn(2) == 0
	for i := range l {
		l[i].Perm = random.Intn(8)
		if lavish {
			l[i].Perm |= random.Intn(8)
		}
	}
	return l
}

func mixedMeta(random *rand.Rand) api.Meta {
	m := api.Meta{Mode: random.Intn(4096), Uid: someone(random), Gid: someone(random)}
	if random.Intn(20) == 0 {
		m.Mode = pick(random, -1, math.MinInt, math.MaxInt, random.Int(), -random.Int())
	}
	if random.Intn(3) > 0 {
		m.Acl = mixedList(random)
	}
	if random.Intn(3) == 0 {
		// What is said beside takes no part in it.
		m.Default, m.Flags, m.Caps = mixedList(random), random.Intn(16), api.Caps{Ver: 2, Permitted: random.Uint64()}
	}
	return m
}

func mixedCred(random *rand.Rand) api.Cred {
	c := who(someone(random), someone(random))
	for range pick(random, 0, 0, 1, 2, 3, 9) {
		c.Groups = append(c.Groups, someone(random))
	}
	if random.Intn(3) == 0 {
		c.Powers = pick(random, random.Intn(128), 1<<random.Intn(63), -1)
	}
	return c
}

// Metadata and callers of all sorts.
func TestMixed(t *testing.T) {
	random := rand.New(rand.NewSource(182))
	met := map[bool][6]int{}
	for range 60000 {
		m, c := mixedMeta(random), mixedCred(random)
		if len(m.Acl) > 0 && !acl.May(m.Acl) {
			t.Fatal("no list:", m.Acl)
		}
		for want := -1; want <= 8; want++ {
			can, rule := wantCan(m, c, want)
			if Can(m, c, want) != can {
				t.Fatalf("18.2: Can is %t for %s, want %d (rule %d)", !can, shown(m, c), want, rule)
			}
			counts := met[can]
			counts[rule]++
			met[can] = counts
		}
		if gid := someone(random); In(c, gid) != wantIn(c, gid) {
			t.Fatalf("18.1: In of %s and %d", shown(m, c), gid)
		}
		if Owner(m, c) != (m.Uid == c.Uid || c.Powers&powerOwner != 0) {
			t.Fatalf("18.1: Owner of %s", shown(m, c))
		}
		checkLess(t, m, c)
	}
	for rule := 1; rule <= 5; rule++ {
		if met[true][rule] < 3000 || rule > 1 && met[false][rule] < 3000 {
			t.Errorf("rule %d decided too seldom: %v", rule, met)
		}
	}
}

// checkLess holds Less against the words, and against 18.4.
func checkLess(t *testing.T, m api.Meta, c api.Cred) {
	t.Helper()
	n := Less(m)
	if n != wantLess(m) {
		t.Fatalf("18.3: Less of %s: %o, not %o", shown(m, c), n, wantLess(m))
	}
	bare := api.Meta{Mode: n, Uid: m.Uid, Gid: m.Gid}
	for want := range 8 {
		if Can(bare, c, want) && !Can(m, c, want) {
			t.Fatalf("18.4: %o grants more than %s, want %d", n, shown(m, c), want)
		}
	}
}

// The longest list, and as many groups.
func TestLongest(t *testing.T) {
	l := aces(ace(owner, 0, 0), ace(group, 0, 0))
	for id := 100; id < 128; id++ {
		l = append(l, ace(named, id, 7))
	}
	l = append(l, ace(mask, 0, 6), ace(other, 0, 1))
	m := api.Meta{Uid: 5, Gid: 50, Acl: l}
	if len(l) != 32 || !acl.May(l) {
		t.Fatal("no list")
	}
	many := make([]int, 100000)
	checkPerms(t, m, who(8, 1, many...), granting[1])
	many[99999] = 127
	checkPerms(t, m, who(8, 1, many...), granting[6])
	many[99999] = 50
	checkPerms(t, m, who(8, 1, many...), granting[0])
	if n := Less(m); n != 0 {
		t.Errorf("18.3: Less of the longest list: %o", n)
	}
	l[31].Perm = 7
	if n := Less(m); n != 6 {
		t.Errorf("18.3: Less of the longest list: %o", n)
	}
	for i := 2; i < 30; i++ {
		l[i].Tag, l[i].Perm = user, i%2*2+4
	}
	m.Acl = append(append(slices.Clone(l[:1]), l[2:30]...), l[1], l[30], l[31])
	m.Acl[29].Perm = 7
	if n := Less(m); !acl.May(m.Acl) || n != 0o044 {
		t.Errorf("18.3: Less of the longest list of users: %o", n)
	}
	checkPerms(t, m, who(127, 1), granting[6])
	checkPerms(t, m, who(126, 50), granting[4])
	checkPerms(t, m, who(128, 50), granting[6])
}

// Nothing that is handed in is changed, behind the ends of the lists neither.
func TestArguments(t *testing.T) {
	random := rand.New(rand.NewSource(3))
	for range 500 {
		m, c := mixedMeta(random), mixedCred(random)
		m.Acl = append(m.Acl, ace(owner, 9, 9), ace(other, 9, 9))[:len(m.Acl)]
		c.Groups = append(c.Groups, 77, 78)[:len(c.Groups)]
		list, groups := m.Acl[:cap(m.Acl)], c.Groups[:cap(c.Groups)]
		listWas, groupsWas := slices.Clone(list), slices.Clone(groups)
		first := answers(m, c)
		if !slices.Equal(list, listWas) || !slices.Equal(groups, groupsWas) {
			t.Fatal("R3: an argument is changed:", shown(m, c))
		}
		if !slices.Equal(answers(m, c), first) {
			t.Fatal("R1: another answer to the same call:", shown(m, c))
		}
		// What is asked later doesn't hang on what was asked before.
		for i := range list {
			list[i].Perm = 7
		}
		for want := range 8 {
			if can, _ := wantCan(m, c, want); Can(m, c, want) != can {
				t.Fatal("R3: a list is kept:", shown(m, c))
			}
		}
	}
}

func answers(m api.Meta, c api.Cred) []int {
	l := []int{Less(m)}
	is := []bool{Owner(m, c), In(c, 0), In(c, 1), In(c, 77)}
	for want := -1; want <= 8; want++ {
		is = append(is, Can(m, c, want))
	}
	for i, b := range is {
		if b {
			l = append(l, i)
		}
	}
	return l
}

func TestTogether(t *testing.T) {
	var all sync.WaitGroup
	for seed := range 8 {
		all.Go(func() {
			random := rand.New(rand.NewSource(int64(seed % 2)))
			for range 2000 {
				m, c := mixedMeta(random), mixedCred(random)
				if can, _ := wantCan(m, c, 5); Can(m, c, 5) != can || Less(m) != wantLess(m) {
					t.Error("R5:", shown(m, c))
				}
			}
		})
	}
	all.Wait()
}

// Lists that are not valid: nothing is promised but that there is an answer.
func TestNoPanic(t *testing.T) {
	random := rand.New(rand.NewSource(4))
	number := func() int {
		return pick(random, 0, 1, 2, 3, 4, 5, 6, 7, 8, -1, math.MaxInt, math.MinInt, random.Int())
	}
	for range 60000 {
		m, c := mixedMeta(random), mixedCred(random)
		m.Acl = nil
		for range random.Intn(7) {
			m.Acl = append(m.Acl, ace(number(), number(), number()))
		}
		want := number()
		if can := Can(m, c, want); can && (want < 0 || want > 7) {
			t.Fatalf("18.2: %d is granted", want)
		}
		Less(m)
		Owner(m, c)
		In(c, number())
	}
	long := slices.Repeat(aces(ace(user, 1, 0)), 1<<20)
	if Can(api.Meta{Uid: 2, Acl: long}, who(1, 1), 0) || Less(api.Meta{Acl: long}) != 0 {
		t.Error("18, Ways: a list without a mask grants something")
	}
}

// A check that needs a part which isn't there grants nothing, not even nothing.
func TestMissing(t *testing.T) {
	full := "u::rwx,u:7:rwx,g::rwx,g:60:rwx,m::rwx,o::rwx"
	for _, c := range []struct {
		without int
		c       api.Cred
	}{
		{owner, who(5, 50)}, {mask, who(7, 1)}, {group, who(8, 50)}, {group, who(8, 50, 60)}, {group, who(8, 60, 50)}, {other, who(8, 1)},
	} {
		m := listed(t, full)
		checkPerms(t, m, c.c, granting[7])
		m.Acl = slices.DeleteFunc(m.Acl, func(a api.Ace) bool { return a.Tag == c.without })
		for want := range 8 {
			if Can(m, c.c, want) {
				t.Errorf("18, Ways: %d is granted without the part %d", want, c.without)
			}
			if !Can(m, with(c.c, powerAll), want) {
				t.Errorf("18.2: %d isn't granted to the power PAll", want)
			}
		}
		if n := Less(m); c.without != mask && n != 0 {
			t.Errorf("18, Ways: Less without the part %d: %o", c.without, n)
		}
		if !Owner(m, who(5, 1)) {
			t.Error("18.1: Owner asks the list")
		}
	}
}

// The missing of a part ends the check by a panic.
func TestWay(t *testing.T) {
	full := listed(t, "u::rwx,u:7:rwx,g::r-x,g:60:rwx,m::rw-,o::--x")
	for tag, p := range map[int]int{owner: 7, group: 5, mask: 6, other: 1} {
		if got := perm(full.Acl, tag); got != p {
			t.Errorf("18, Ways: the part %d has the Perm %d", tag, got)
		}
		rest := slices.DeleteFunc(slices.Clone(full.Acl), func(a api.Ace) bool { return a.Tag == tag })
		for _, l := range [][]api.Ace{rest, nil} {
			func() {
				defer func() {
					got := recover()
					if _, is := got.(missing); !is {
						t.Errorf("18, Ways: without the part %d: %s", tag, reflect.TypeOf(got))
					}
				}()
				perm(l, tag)
			}()
		}
	}
}

// bytesList makes parts of bytes, three for one.
func bytesList(s string) []api.Ace {
	var l []api.Ace
	for ; len(s) >= 3; s = s[3:] {
		l = append(l, ace(int(s[0]), int(s[1]), int(s[2])))
	}
	return l
}

func FuzzCan(f *testing.F) {
	var s strings.Builder
	for _, a := range shape([]int{2, 3}, []int{2, 3}) {
		s.Write([]byte{byte(a.Tag), byte(a.Id), 5})
	}
	f.Add("", 0o640, 5, 50, 6, 50, "\x02", 0, 4)
	f.Add(s.String(), 0o640, 5, 50, 2, 50, "\x02\x03", 0, 4)
	f.Add(s.String(), 0o640, 5, 50, 6, 3, "\x02", 0, 5)
	f.Add(s.String()[3:], 0o640, 5, 50, 5, 3, "", 2, 8)
	f.Fuzz(func(t *testing.T, list string, mode, uid, gid, u, g int, groups string, powers, want int) {
		m := api.Meta{Mode: mode, Uid: uid, Gid: gid, Acl: bytesList(list)}
		c := with(who(u, g), powers)
		for _, b := range []byte(groups) {
			c.Groups = append(c.Groups, int(b))
		}
		can, less := Can(m, c, want), Less(m)
		if len(m.Acl) > 0 && !acl.May(m.Acl) {
			return
		}
		if words, rule := wantCan(m, c, want); can != words {
			t.Errorf("18.2: Can is %t for %s, want %d (rule %d)", can, shown(m, c), want, rule)
		}
		if less != wantLess(m) {
			t.Errorf("18.3: Less of %s: %o", shown(m, c), less)
		}
		checkLess(t, m, c)
	})
}
