package fs

import (
	"math"
	"testing"

	"gripsack/api"
)

// everyone is the owner, another one, and another one with each power alone.
func everyone() []api.Cred {
	l := []api.Cred{me(), who(9, 9, 0)}
	for bit := range 7 {
		l = append(l, who(9, 9, 1<<bit))
	}
	return l
}

// Who may what: the digits are for everyone, in their order: the owner, another
// one, PChown, PAll, POwner, PCaps, PNodes, PFlags, PXattrs.
func TestEveryone(t *testing.T) {
	shared := []func(f *api.FS){moded(aDir, 0o1777), given(aDeep, 8)}
	open := []func(f *api.FS){moded(aDir, 0o777)}
	for i, c := range []struct {
		do  []func(f *api.FS)
		k   call
		may string
	}{
		{nil, call{name: "Make", path: "dir/new", n: bare(api.KFile, 0o600, 0, 0)}, "100100000"},
		{nil, call{name: "Make", path: "dir/new", n: bare(api.KSym, 0o600, 0, 0)}, "100100000"},
		{nil, call{name: "Make", path: "dir/new", n: bare(api.KChar, 0o600, 0, 0)}, "000000000"},
		{open, call{name: "Make", path: "dir/new", n: bare(api.KFile, 0o600, 0, 0)}, "111111111"},
		{open, call{name: "Make", path: "dir/new", n: bare(api.KDir, 0o600, 0, 0)}, "111111111"},
		{open, call{name: "Make", path: "dir/new", n: bare(api.KFifo, 0o600, 0, 0)}, "111111111"},
		{open, call{name: "Make", path: "dir/new", n: bare(api.KChar, 0o600, 0, 0)}, "000000100"},
		{open, call{name: "Make", path: "dir/new", n: bare(api.KBlock, 0o600, 0, 0)}, "000000100"},
		{nil, call{name: "Link", old: "file", path: "dir/new"}, "100100000"},
		{open, call{name: "Link", old: "file", path: "dir/new"}, "111111111"},
		{open, call{name: "Link", old: "char", path: "dir/new"}, "111111111"},
		{nil, call{name: "Remove", path: "dir/deep"}, "100100000"},
		{open, call{name: "Remove", path: "dir/deep"}, "111111111"},
		{shared, call{name: "Remove", path: "dir/deep"}, "100010000"},
		{nil, call{name: "Chown", path: "file", uid: 5, gid: 50}, "101000000"},
		{nil, call{name: "Chown", path: "file", uid: 9, gid: 50}, "001000000"},
		{nil, call{name: "Chown", path: "file", uid: 9, gid: 9}, "001000000"},
		{nil, call{name: "Chown", path: "file", uid: 5, gid: 9}, "001000000"},
		{nil, call{name: "Chmod", path: "file", mode: 0o600}, "100010000"},
		{nil, call{name: "Chmod", path: "dir", mode: 0o600}, "100010000"},
		{nil, call{name: "SetAcl", path: "file", acl: plainList()}, "100010000"},
		{nil, call{name: "SetAcl", path: "dir", acl: plainList(), def: plainList()}, "100010000"},
		{nil, call{name: "SetXattrs", path: "file", xattrs: attributes("a", "b")}, "100110000"},
		{[]func(f *api.FS){moded(aFile, 0o666)}, call{name: "SetXattrs", path: "file", xattrs: attributes("a", "b")}, "111111111"},
		{[]func(f *api.FS){moded(aFile, 0o666)}, call{name: "SetXattrs", path: "file", xattrs: attributes("trusted.a", "b")}, "000000001"},
		{[]func(f *api.FS){moded(aFile, 0o666)}, call{name: "SetXattrs", path: "file", xattrs: attributes("security.a", "b")}, "000000001"},
		{nil, call{name: "SetXattrs", path: "file", xattrs: attributes("security.a", "b")}, "000000000"},
		{nil, call{name: "SetCaps", path: "file", caps: api.Caps{Ver: 2}}, "000001000"},
		{nil, call{name: "SetTime", path: "file", t: api.Stamp{Sec: 1}}, "100010000"},
		{nil, call{name: "SetTime", path: "sym", t: api.Stamp{Sec: 1}}, "100010000"},
		{nil, call{name: "SetFlags", path: "file", flags: 4}, "100010000"},
		{nil, call{name: "SetFlags", path: "file", flags: 1}, "000000000"},
		{[]func(f *api.FS){given(aFile, 9)}, call{name: "SetFlags", path: "file", flags: 2}, "000000010"},
	} {
		for w, c2 := range everyone() {
			k := c.k
			k.c = c2
			if c.may[w] == '1' {
				check(t, with(c.do...), k, api.OK)
			} else {
				stays(t, with(c.do...), k, api.ErrDenied)
			}
		}
		if t.Failed() {
			t.Fatal("case", i)
		}
	}
}

// FImmutable and FAppend under each function, on the node and on its parent.
func TestShut(t *testing.T) {
	for n := range 16 {
		shut, fixed := n%4 != 0, n%2 != 0
		holds := func(f api.FS, k call, denied bool) {
			t.Helper()
			k.c = all()
			if denied {
				stays(t, f, k, api.ErrDenied)
			} else {
				check(t, f, k, api.OK)
			}
		}
		for _, k := range []call{{name: "Chown"}, {name: "Chmod"}, {name: "SetAcl"}, {name: "SetXattrs"}, {name: "SetTime"}} {
			for _, path := range []string{"", "dir", "file", "char", "block", "fifo", "dir/sub"} {
				k.path = path
				holds(with(flagged(paths[path], n)), k, shut)
			}
			k.path = "dir/deep"
			holds(with(flagged(aDir, n)), k, false)
			holds(with(flagged(aRoot, n), flagged(aDir, n)), k, false)
		}
		k := call{name: "SetCaps", path: "dir/deep"}
		holds(with(flagged(aDeep, n)), k, shut)
		holds(with(flagged(aDir, n)), k, false)
		for m := range 16 {
			k = call{name: "SetFlags", path: "dir/deep", flags: m}
			holds(with(flagged(aDeep, n), flagged(aDir, 15-n)), k, false)
		}
		k = call{name: "Make", path: "dir/new", n: bare(api.KFifo, 0, 0, 0)}
		holds(with(flagged(aDir, n)), k, fixed)
		holds(with(flagged(aRoot, n)), k, false)
		k = call{name: "Link", old: "dir/deep", path: "new"}
		holds(with(flagged(aDeep, n)), k, shut)
		holds(with(flagged(aDir, n)), k, false) // it is old's parent
		holds(with(flagged(aRoot, n)), k, fixed)
		k.path = "dir/sub/new"
		holds(with(flagged(aSub, n)), k, fixed)
		holds(with(flagged(aDir, n)), k, false)
		k = call{name: "Remove", path: "dir/deep"}
		holds(with(flagged(aDeep, n)), k, shut)
		holds(with(flagged(aDir, n)), k, fixed)
		holds(with(flagged(aRoot, n)), k, false)
		k.path = "dir/sub"
		holds(with(flagged(aSub, n)), k, shut)
	}
}

// Op increases with each call but those that are ErrArg, and one of Faults fails.
func TestFaults(t *testing.T) {
	for _, name := range functions {
		good := usual(name)
		for _, c := range []struct {
			faults []int
			op     int
			e      api.Errno
		}{
			{nil, 0, 0}, {nil, 7, 0}, {[]int{8}, 7, 8}, {[]int{7}, 7, 0}, {[]int{9}, 7, 0}, {[]int{0}, 0, 0}, {[]int{1}, 0, 8}, {[]int{-1, 0, 8, 9}, 7, 8}, {[]int{99, 8}, 7, 8}, {[]int{8, 8}, 7, 8}, {[]int{-8, 8 + 1<<32}, 7, 0}, {[]int{1 << 40}, 1<<40 - 1, 8}, {[]int{math.MaxInt}, math.MaxInt - 1, 8}, {[]int{-1}, 0, 0},
		} {
			f := with(func(f *api.FS) { f.Faults, f.Op = c.faults, c.op })
			g := check(t, f, good, c.e)
			if g.Op != c.op+1 {
				t.Errorf("19.3: Op is %d after %s", g.Op, shown(good, f))
			}
			bad := good
			bad.path = "x//y"
			if g := check(t, f, bad, api.ErrArg); g.Op != c.op {
				t.Errorf("19.3: Op is %d after %s", g.Op, shown(bad, f))
			}
			// An error is an operation, too; the fault stands ahead of it.
			bad.path = "none/x"
			g = check(t, f, bad, max(api.ErrNone, c.e))
			if g.Op != c.op+1 {
				t.Errorf("19.3: Op is %d after %s", g.Op, shown(bad, f))
			}
		}
		// One of several calls, one after the other.
		f := with(func(f *api.FS) { f.Faults = []int{9, 11} })
		for _, want := range []api.Errno{0, 8, 0, 8, 0} {
			var e api.Errno
			if f, e = good.do(f); e == api.ErrFault != (want == 8) {
				t.Errorf("19.3: error %d, not %d: %s", e, want, shown(good, f))
			}
		}
		if f.Op != 12 {
			t.Errorf("19.3: Op is %d", f.Op)
		}
		// Behind the greatest number there is none that is valid.
		f = with(func(f *api.FS) { f.Op = math.MaxInt })
		if g, e := good.do(f); e != 0 || !May(g) {
			t.Errorf("19.4: error %d and Op %d after %s", e, g.Op, shown(good, f))
		}
	}
}

// usual is a call that ends without an error in a sample.
func usual(name string) call {
	k := call{name: name, c: all(), path: "dir/deep", old: "file", uid: 6, gid: 60, mode: 0o600, acl: plainList(), xattrs: attributes("trusted.a", "b"), caps: api.Caps{Ver: 2}, t: api.Stamp{Sec: 4}, flags: 5}
	if name == "Make" || name == "Link" {
		k.path = "dir/new"
	}
	k.n = bare(api.KFile, 0o644, 0, 0)
	return k
}

// cause is a reason for an error: what it does to a file system and a call.
type cause struct {
	e  api.Errno
	do func(f *api.FS, k *call)
}

// path is the cause that a call has another path.
func path(e api.Errno, path string) cause {
	return cause{e, func(f *api.FS, k *call) { k.path = path }}
}

// state is the cause that a file system is another one.
func state(e api.Errno, do func(f *api.FS)) cause {
	return cause{e, func(f *api.FS, k *call) { do(f) }}
}

// causes are the reasons for each error of a function, in the order of the
// chapter: of those in one list any may stand first. The call is by me.
func causes(name string) [][]cause {
	fault := []cause{{api.ErrFault, func(f *api.FS, k *call) { f.Faults = []int{f.Op + 1} }}}
	wrongPath := path(api.ErrArg, "dir//deep")
	parent := []cause{path(api.ErrNone, "none/deep"), path(api.ErrKind, "file/x/deep"), state(api.ErrDenied, moded(aRoot, 0))}
	find := append([]cause{path(api.ErrNone, "dir/none"), path(api.ErrKind, "file/x")}, parent...)
	deny := func(at int) []cause {
		return []cause{state(api.ErrDenied, given(at, 9)), state(api.ErrDenied, flagged(at, 1)), state(api.ErrDenied, flagged(at, 2))}
	}
	set := func(arg func(k *call), rest ...[]cause) [][]cause {
		return append([][]cause{{wrongPath, {api.ErrArg, func(f *api.FS, k *call) { arg(k) }}}, fault, find}, rest...)
	}
	link := path(api.ErrKind, "sym")
	folder := path(api.ErrKind, "dir")
	closed := []cause{state(api.ErrDenied, moded(aDir, 0o555)), state(api.ErrDenied, flagged(aDir, 1))}
	switch name {
	case "Make":
		return [][]cause{
			{wrongPath, path(api.ErrArg, ""), {api.ErrArg, func(f *api.FS, k *call) { k.n.Meta.Mode = 4096 }}, {api.ErrArg, func(f *api.FS, k *call) { k.n.Kind = api.KHard }}, {api.ErrArg, func(f *api.FS, k *call) { k.n.Minor = -1 }}},
			fault, parent, {path(api.ErrKind, "file/new")}, closed, {path(api.ErrHave, "dir/link")},
			{{api.ErrDenied, func(f *api.FS, k *call) { k.n = bare(api.KChar, 0, 0, 0) }}, {api.ErrDenied, func(f *api.FS, k *call) { k.n = bare(api.KBlock, 0, 0, 0) }}},
			{state(api.ErrFull, filled), {api.ErrFull, func(f *api.FS, k *call) { f.Room, k.n.Data = 3, "more" }}},
		}
	case "Link":
		old := func(e api.Errno, old string) cause { return cause{e, func(f *api.FS, k *call) { k.old = old }} }
		// The way to the parent is closed, the one to old is not.
		hidden := cause{api.ErrDenied, func(f *api.FS, k *call) { f.Nodes[aDir].Meta.Mode, k.path = 0o600, "dir/sub/new" }}
		return [][]cause{
			{wrongPath, path(api.ErrArg, ""), old(api.ErrArg, "/")}, fault,
			{old(api.ErrNone, "none"), old(api.ErrKind, "file/x"), state(api.ErrDenied, moded(aRoot, 0))},
			{path(api.ErrNone, "none/new"), path(api.ErrKind, "file/x/new"), hidden}, {old(api.ErrKind, "dir"), path(api.ErrKind, "file/new")},
			append(closed, state(api.ErrDenied, flagged(aFile, 1)), state(api.ErrDenied, flagged(aFile, 2))), {path(api.ErrHave, "dir/sub")},
		}
	case "Remove":
		// Both of the nodes that may be removed have what keeps them.
		both := func(do func(at int) func(f *api.FS)) cause {
			return state(api.ErrDenied, func(f *api.FS) { do(aDeep)(f); do(aSub)(f) })
		}
		kept := both(func(at int) func(f *api.FS) { return flagged(at, 1) })
		more := both(func(at int) func(f *api.FS) { return flagged(at, 2) })
		sticky := both(func(at int) func(f *api.FS) {
			return func(f *api.FS) { moded(aDir, 0o1777)(f); given(aDir, 9)(f); given(at, 9)(f) }
		})
		busy := cause{api.ErrBusy, func(f *api.FS, k *call) { f.Nodes[aSub].Kids, k.path = kids("x", aFile), "dir/sub" }}
		return [][]cause{
			{wrongPath, path(api.ErrArg, "")}, fault, parent, {path(api.ErrNone, "dir/none"), path(api.ErrKind, "file/x"), state(api.ErrDenied, moded(aDir, 0))},
			append(closed, kept, more, sticky), {busy},
		}
	case "Chown":
		return set(func(k *call) { k.gid = -1 }, append(deny(aDeep), cause{api.ErrDenied, func(f *api.FS, k *call) { k.gid = 51 }}))
	case "Chmod":
		return set(func(k *call) { k.mode = 4096 }, []cause{link}, deny(aDeep))
	case "SetAcl":
		def := cause{api.ErrKind, func(f *api.FS, k *call) { k.def = plainList() }}
		return set(func(k *call) { k.acl = plainList()[1:] }, []cause{link, def}, deny(aDeep))
	case "SetXattrs":
		special := cause{api.ErrDenied, func(f *api.FS, k *call) { k.xattrs = attributes("trusted.x", "") }}
		return set(func(k *call) { k.xattrs = attributes("", "") }, append(deny(aDeep), special))
	case "SetCaps":
		return set(func(k *call) { k.caps.Ver = 1 }, []cause{link, folder}, []cause{state(api.ErrDenied, flagged(aDeep, 1)), {api.ErrDenied, func(f *api.FS, k *call) { k.c.Powers = 127 - 8 - 2 }}})
	case "SetTime":
		return set(func(k *call) { k.t.Nano = -1 }, deny(aDeep))
	}
	fixed := cause{api.ErrDenied, func(f *api.FS, k *call) { k.flags = 1 }}
	return set(func(k *call) { k.flags = 16 }, []cause{link}, []cause{state(api.ErrDenied, given(aDeep, 9)), fixed})
}

// filled makes as many nodes of f as there may be.
func filled(f *api.FS) {
	for len(f.Nodes) < 64 {
		f.Nodes = append(f.Nodes, api.Inode{})
	}
	for i, n := range f.Nodes {
		if n.Kind == 0 {
			f.Nodes[i] = node(api.KFifo, 0)
			f.Nodes[aSub].Kids = append(f.Nodes[aSub].Kids, api.Dirent{Name: string(rune('0' + i)), Ino: i})
		}
	}
}

// mine is a call that ends without an error in a sample, by me.
func mine(name string) call {
	k := usual(name)
	k.c = me()
	k.uid, k.gid, k.xattrs, k.flags = 5, 50, attributes("a", "b"), 4
	if name == "SetCaps" {
		k.c.Powers = 8
	}
	return k
}

// Each error alone, and all that may apply at once: the first one counts.
func TestOrder(t *testing.T) {
	for _, name := range functions {
		check(t, sample(), mine(name), api.OK)
		l := causes(name)
		met := map[api.Errno]int{}
		for i := range l {
			for _, first := range l[i] {
				// Any of those behind it, none of them, and of each list one.
				for set := range 1 << (len(l) - i - 1) {
					for pick := range 3 {
						f, k := sample(), mine(name)
						for j := len(l) - 1; j > i; j-- {
							if set>>(j-i-1)&1 == 1 {
								l[j][pick%len(l[j])].do(&f, &k)
							}
						}
						// What is done last isn't undone.
						first.do(&f, &k)
						stays(t, f, k, first.e)
						met[first.e]++
						if t.Failed() {
							t.Fatal("19.3:", name, "list", i)
						}
					}
				}
			}
		}
		if met[api.ErrArg] == 0 || met[api.ErrFault] == 0 || met[api.ErrNone] == 0 || met[api.ErrDenied] == 0 {
			t.Errorf("the test meets %v for %s", met, name)
		}
	}
}
