package fs

import (
	"math"
	"slices"
	"strings"
	"testing"

	"gripsack/api"
)

// who is somebody with some powers.
func who(uid, gid, powers int, groups ...int) api.Cred {
	return api.Cred{Uid: uid, Gid: gid, Groups: groups, Powers: powers}
}

// me owns all that is in sample, and has no powers.
func me() api.Cred { return who(5, 50, 0) }

// all has every power.
func all() api.Cred { return who(0, 0, 127) }

// node is one of mine.
func node(kind, mode int) api.Inode {
	return api.Inode{Kind: kind, Meta: api.Meta{Mode: mode, Uid: 5, Gid: 50}}
}

// The nodes of sample.
const (
	aRoot = iota
	aDir
	aFile
	aSym
	aChar
	aBlock
	aFifo
	aDeep
	aSub
	aNone
)

// sample has a node of each kind, all of them mine. The file has two names.
func sample() api.FS {
	l := make([]api.Inode, aNone+1)
	l[aRoot], l[aDir], l[aSub] = node(api.KDir, 0o755), node(api.KDir, 0o755), node(api.KDir, 0o755)
	l[aFile], l[aDeep] = node(api.KFile, 0o644), node(api.KFile, 0o644)
	l[aSym], l[aChar], l[aBlock], l[aFifo] = node(api.KSym, 0o777), node(api.KChar, 0o644), node(api.KBlock, 0o644), node(api.KFifo, 0o644)
	l[aFile].Data, l[aDeep].Data, l[aSym].Target, l[aChar].Major, l[aBlock].Minor = "hello", "deep", "../x", 1, 2
	l[aRoot].Kids = kids("block", aBlock, "char", aChar, "dir", aDir, "fifo", aFifo, "file", aFile, "sym", aSym)
	l[aDir].Kids = kids("deep", aDeep, "link", aFile, "sub", aSub)
	return api.FS{Nodes: l, Room: 100, Op: 7, Faults: []int{-1, 0, 7, 99}}
}

// The paths of sample, beside those that are told in a test itself.
var paths = map[string]int{"": aRoot, "block": aBlock, "char": aChar, "dir": aDir, "dir/deep": aDeep, "dir/link": aFile, "dir/sub": aSub, "fifo": aFifo, "file": aFile, "sym": aSym}

// kids are names with their numbers: name, number, name, number.
func kids(l ...any) []api.Dirent {
	var out []api.Dirent
	for i := 0; i < len(l); i += 2 {
		out = append(out, api.Dirent{Name: l[i].(string), Ino: l[i+1].(int)})
	}
	return out
}

// with returns a sample in which something else is said.
func with(do ...func(f *api.FS)) api.FS {
	f := sample()
	for _, do := range do {
		do(&f)
	}
	return f
}

// flagged sets the Flags of a node.
func flagged(at, n int) func(f *api.FS) {
	return func(f *api.FS) { f.Nodes[at].Meta.Flags = n }
}

// moded sets the Mode of a node.
func moded(at, mode int) func(f *api.FS) {
	return func(f *api.FS) { f.Nodes[at].Meta.Mode = mode }
}

// given sets the Uid of a node.
func given(at, uid int) func(f *api.FS) {
	return func(f *api.FS) { f.Nodes[at].Meta.Uid = uid }
}

// check holds a call against an error, and what it returns against the words.
func check(t *testing.T, f api.FS, k call, e api.Errno) api.FS {
	t.Helper()
	if !May(f) {
		t.Fatal("no file system:", shown(k, f))
	}
	before := twin(f)
	g, got := k.do(f)
	words, want := k.want(f)
	if want != e {
		t.Errorf("the words say %d, the test %d: %s", want, e, shown(k, f))
	}
	if got != e {
		t.Errorf("19.3: error %d, not %d: %s", got, e, shown(k, f))
	} else if !same(g, words) {
		t.Errorf("19.3: %s\nis answered by %s\nnot by %s", shown(k, f), drawn(g), drawn(words))
	}
	if !May(g) {
		t.Errorf("19.4: %s\nis answered by %s", shown(k, f), drawn(g))
	}
	if !same(f, before) {
		t.Errorf("R3: the argument is changed by %s", shown(k, f))
	}
	return g
}

// stays holds that a call changes nothing but, perhaps, Op.
func stays(t *testing.T, f api.FS, k call, e api.Errno) {
	t.Helper()
	g := check(t, f, k, e)
	if e != api.ErrArg {
		f.Op++
	}
	if !same(f, g) {
		t.Errorf("19.3: with the error %d %s\nis answered by %s", e, shown(k, f), drawn(g))
	}
}

// becomes holds that a call changes one node as do does, and nothing else but Op.
func becomes(t *testing.T, f api.FS, k call, at int, do func(n *api.Inode)) {
	t.Helper()
	g := check(t, f, k, api.OK)
	want := twin(f)
	do(&want.Nodes[at])
	want.Op++
	if !same(g, want) {
		t.Errorf("19.3: %s\nis answered by %s\nnot by %s", shown(k, f), drawn(g), drawn(want))
	}
}

func TestExamples(t *testing.T) {
	if f := New(-5); f.Room != 0 || !May(f) {
		t.Error("19.1: the example of New, or that of May")
	}
	if l, ok := Parts("a/b"); !ok || !slices.Equal(l, []string{"a", "b"}) {
		t.Error("19.1: the example of Parts")
	}
	if at, e := Find(New(0), api.Cred{}, ""); at != 0 || e != 0 {
		t.Error("19.2: the example of Find")
	}
	f := sample()
	stays(t, f, call{name: "Make", c: me(), path: "file", n: node(api.KFile, 0)}, api.ErrHave)
	stays(t, f, call{name: "Link", c: me(), old: "dir", path: "new"}, api.ErrKind)
	stays(t, f, call{name: "Remove", c: me(), path: "dir"}, api.ErrBusy)
	stays(t, f, call{name: "Chmod", c: me(), path: "sym"}, api.ErrKind)
	stays(t, f, call{name: "SetAcl", c: me(), path: "file", def: plainList()}, api.ErrKind)
	stays(t, f, call{name: "SetCaps", c: all(), path: "dir"}, api.ErrKind)
	stays(t, f, call{name: "SetTime", c: me(), path: "file", t: api.Stamp{Nano: -1}}, api.ErrArg)
	stays(t, f, call{name: "SetFlags", c: all(), path: "file", flags: 16}, api.ErrArg)
	f = with(moded(aFile, 0o6755))
	becomes(t, f, call{name: "Chown", c: all(), path: "file", uid: 6, gid: 7}, aFile, func(n *api.Inode) {
		n.Meta.Mode, n.Meta.Uid, n.Meta.Gid = 0o755, 6, 7
	})
	f.Nodes[aFile].Meta.Xattrs = attributes("trusted.x", "1")
	stays(t, f, call{name: "SetXattrs", c: who(5, 50, 127-64), path: "file"}, api.ErrDenied)
}

func TestNew(t *testing.T) {
	for _, c := range []struct{ room, want int }{{0, 0}, {1, 1}, {-1, 0}, {-5, 0}, {1 << 40, 1 << 40}, {math.MaxInt, math.MaxInt}, {math.MinInt, 0}} {
		f := New(c.room)
		want := api.FS{Nodes: []api.Inode{{Kind: api.KDir, Meta: api.Meta{Mode: 493}}}, Room: c.want}
		if !same(f, want) || !May(f) {
			t.Errorf("19.1: New(%d): %s", c.room, drawn(f))
		}
		f.Nodes[0].Meta.Mode = 1
		if !same(New(c.room), want) {
			t.Error("R3: two file systems share memory")
		}
	}
}

func rep(s string, n int) string { return strings.Repeat(s, n) }

func TestParts(t *testing.T) {
	for _, path := range []string{"a", "a/b", "a/b/c", "...", "a/...", ".a", "..a", "a..", " ", "\x01", "\xff", "a\\b", "\n", rep("n", 255), rep("n", 255) + "/" + rep("m", 255), rep("a/", 63) + "a", rep(rep("n", 255)+"/", 15) + rep("n", 255), rep(rep("n", 255)+"/", 15) + rep("n", 255) + "/" + "a"} {
		l, ok := Parts(path)
		if valid := len(path) <= 4096; ok != valid || valid && strings.Join(l, "/") != path {
			t.Errorf("19.1: Parts of %.80q: %.80q, %t", path, l, ok)
		}
		for _, name := range l {
			if name == "" || strings.Contains(name, "/") {
				t.Errorf("19.1: Parts of %.80q: %.80q", path, l)
			}
		}
	}
	if l, ok := Parts(""); !ok || len(l) != 0 {
		t.Error("19.1: Parts of the root:", l, ok)
	}
	for _, path := range wrongPaths() {
		if l, ok := Parts(path); ok || len(l) != 0 {
			t.Errorf("19.1: Parts of %.80q: %.80q, %t", path, l, ok)
		}
	}
	l, _ := Parts("a/b")
	l[0], l = "x", append(l, "y")
	if again, _ := Parts("a/b"); !slices.Equal(again, []string{"a", "b"}) || len(l) != 3 {
		t.Error("R3: two results share memory")
	}
}

// wrongPaths are not valid, for one reason each.
func wrongPaths() []string {
	return []string{"/", "/a", "a/", "a//b", "//", ".", "..", "a/.", "a/..", "./a", "../a", "a/../b", "a/./b", "\x00", "a\x00", "a/\x00b", rep("n", 256), "a/" + rep("n", 256), rep("n", 256) + "/a", rep("a/", 64) + "a", rep(rep("n", 255)+"/", 15) + rep("n", 255) + "/a", rep("n", 5000), " /"}
}

func checkFind(t *testing.T, f api.FS, c api.Cred, path string, at int, e api.Errno) {
	t.Helper()
	before := twin(f)
	if got, gotE := Find(f, c, path); got != at || gotE != e {
		t.Errorf("19.2: Find of %.80q by %v: %d, error %d; want %d, %d; %s", path, c, got, gotE, at, e, drawn(f))
	}
	if !same(f, before) {
		t.Error("R3: the argument is changed")
	}
	if !wantPath(path) {
		return
	}
	if words, wordsE := worldOf(f).find(c, path); words != at || wordsE != e {
		t.Errorf("the words say %d, error %d: %.80q", words, wordsE, path)
	}
}

func TestFind(t *testing.T) {
	f := sample()
	for path, at := range paths {
		for _, c := range []api.Cred{me(), all(), who(9, 9, 0), who(9, 50, 0)} {
			checkFind(t, f, c, path, at, api.OK)
		}
	}
	for _, path := range []string{"x", "none", "Dir", "dir ", "dirr", "di", "zzz", "!", "dir/x", "dir/zzz", "dir/dir", "dir/sub/x", "deep", "x/y", "dir/x/y/z"} {
		checkFind(t, f, me(), path, 0, api.ErrNone)
	}
	for _, path := range []string{"file/x", "file/x/y", "sym/x", "char/x", "block/x", "fifo/x", "dir/deep/x", "dir/link/x"} {
		checkFind(t, f, me(), path, 0, api.ErrKind)
		checkFind(t, f, all(), path, 0, api.ErrKind)
	}
	for _, path := range wrongPaths() {
		checkFind(t, f, all(), path, 0, api.ErrArg)
	}
	// No operation is counted, and none fails.
	f.Faults = []int{f.Op, f.Op + 1}
	checkFind(t, f, me(), "dir/deep", aDeep, api.OK)
}

// X on each directory is asked, and on nothing else.
func TestFindRights(t *testing.T) {
	other := who(9, 9, 0)
	for _, c := range []struct {
		mode       int
		mine, ours api.Errno // for me, and for others
	}{{0o755, 0, 0}, {0o100, 0, 7}, {0o001, 7, 0}, {0o666, 7, 7}, {0, 7, 7}, {0o101, 0, 0}, {0o7666, 7, 7}} {
		f := with(moded(aDir, c.mode))
		for _, w := range []struct {
			c api.Cred
			e api.Errno
		}{{me(), c.mine}, {other, c.ours}, {who(9, 9, 127-2), c.ours}, {who(9, 9, 2), 0}} {
			checkFind(t, f, w.c, "dir", aDir, api.OK)
			for path, at := range map[string]int{"dir/deep": aDeep, "dir/sub": aSub} {
				if w.e != 0 {
					at = 0
				}
				checkFind(t, f, w.c, path, at, w.e)
			}
			// Whether there is such a name isn't told.
			checkFind(t, f, w.c, "dir/none", 0, max(w.e, api.ErrNone))
			checkFind(t, f, w.c, "dir/deep/x", 0, map[bool]api.Errno{true: 10, false: 7}[w.e == 0])
		}
	}
	shut := with(moded(aRoot, 0o600))
	checkFind(t, shut, me(), "", aRoot, api.OK)
	checkFind(t, shut, me(), "dir", 0, api.ErrDenied)
	checkFind(t, shut, me(), "none/x", 0, api.ErrDenied)
	// The first fault on the way counts, whatever its number.
	f := with(moded(aDir, 0))
	checkFind(t, f, me(), "none/x", 0, api.ErrNone)
	checkFind(t, f, me(), "file/x", 0, api.ErrKind)
	checkFind(t, f, me(), "dir/sub/none", 0, api.ErrDenied)
	// A list of rights is asked instead of the mode.
	f = sample()
	f.Nodes[aDir].Meta.Acl = list(1, 0, 7, 2, 9, 6, 3, 0, 5, 5, 0, 5, 6, 0, 5)
	checkFind(t, f, who(9, 50, 0), "dir/deep", 0, api.ErrDenied)
	checkFind(t, f, who(8, 50, 0), "dir/deep", aDeep, api.OK)
}

// chain is a file system with directories in one another.
func chain(names []string) api.FS {
	f := api.FS{Nodes: []api.Inode{node(api.KDir, 0o755)}}
	for i, name := range names {
		f.Nodes[i].Kids = kids(name, i+1)
		f.Nodes = append(f.Nodes, node(api.KDir, 0o755))
	}
	return f
}

// The longest ways: 64 names would need 65 nodes as directories alone.
func TestFindFar(t *testing.T) {
	names := slices.Repeat([]string{"n"}, 63)
	f := chain(names)
	if !May(f) {
		t.Fatal("19.1: 63 directories in one another")
	}
	for i := range 64 {
		checkFind(t, f, me(), strings.Join(names[:i], "/"), i, api.OK)
	}
	checkFind(t, f, me(), rep("n/", 63)+"n", 0, api.ErrNone)
	checkFind(t, f, me(), rep("n/", 64)+"n", 0, api.ErrArg)
	f.Nodes[62].Meta.Mode = 0
	checkFind(t, f, me(), rep("n/", 62)+"n", 0, api.ErrDenied)
	checkFind(t, f, me(), rep("n/", 61)+"n", 62, api.OK)
	wide := slices.Repeat([]string{rep("n", 255)}, 15)
	f = chain(append(wide, rep("m", 255)))
	checkFind(t, f, me(), strings.Join(wide, "/")+"/"+rep("m", 255), 16, api.OK)
	checkFind(t, f, me(), strings.Join(wide, "/")+"/"+rep("m", 254), 0, api.ErrNone)
	checkFind(t, f, me(), strings.Join(wide, "/")+"/"+rep("m", 256), 0, api.ErrArg)
}
