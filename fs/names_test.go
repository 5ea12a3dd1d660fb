package fs

import (
	"math"
	"strconv"
	"testing"

	"gripsack/acl"
	"gripsack/api"
)

// makes holds that a node is made as it is told, and that nothing else changes
// but the Kids of its parent, Room and Op.
func makes(t *testing.T, f api.FS, k call, at, dir int, want api.Inode, names []api.Dirent) api.FS {
	t.Helper()
	g := check(t, f, k, api.OK)
	h := twin(f)
	if at == len(h.Nodes) {
		h.Nodes = append(h.Nodes, api.Inode{})
	}
	h.Nodes[at], h.Nodes[dir].Kids = want, names
	h.Room -= len(want.Data)
	h.Op++
	if !same(g, h) {
		t.Errorf("19.3: %s\nis answered by %s\nnot by %s", shown(k, f), drawn(g), drawn(h))
	}
	return g
}

// bare is a node of a user and a group with what its kind needs.
func bare(kind, mode, uid, gid int) api.Inode {
	n := api.Inode{Kind: kind, Meta: api.Meta{Mode: mode, Uid: uid, Gid: gid}}
	switch kind {
	case api.KFile:
		n.Data = "data"
	case api.KSym:
		n.Target = "a/../b"
	case api.KChar, api.KBlock:
		n.Major, n.Minor = 3, 2097151
	}
	return n
}

func TestMakeKinds(t *testing.T) {
	for _, kind := range []int{api.KFile, api.KSym, api.KChar, api.KBlock, api.KDir, api.KFifo} {
		for _, mode := range []int{0, 0o644, 0o777, 0o7777, 0o2755, 4095} {
			want := bare(kind, mode, 5, 51)
			if kind == api.KSym {
				want.Meta.Mode = 511
			}
			laden := bare(kind, mode, 0, 0)
			// All else that is said of it is left out.
			laden.Meta.Uid, laden.Meta.Gid, laden.Meta.Flags, laden.Meta.Mtime = 8, 9, 15, api.Stamp{Sec: 5}
			laden.Meta.Acl, laden.Meta.Default, laden.Meta.Xattrs, laden.Meta.Caps = plainList(), plainList(), attributes("a", "b"), api.Caps{Ver: 2}
			laden.Kids = kids("x", 1)
			for _, n := range []api.Inode{bare(kind, mode, 0, 0), laden, bare(kind, mode, -1, 1<<40)} {
				k := call{name: "Make", c: who(5, 51, 16), path: "dir/new", n: n}
				makes(t, sample(), k, aNone, aDir, want, kids("deep", aDeep, "link", aFile, "new", aNone, "sub", aSub))
			}
		}
	}
	// Metadata that are not valid are left out as well.
	n := bare(api.KFile, 0o600, -5, math.MaxInt)
	n.Meta.Flags, n.Meta.Acl, n.Meta.Mtime.Nano, n.Meta.Caps.Ver = 99, make([]api.Ace, 2), -1, 77
	k := call{name: "Make", c: me(), path: "dir/new", n: n}
	makes(t, sample(), k, aNone, aDir, bare(api.KFile, 0o600, 5, 50), kids("deep", aDeep, "link", aFile, "new", aNone, "sub", aSub))
}

// Names come to stand in the order of their bytes, in whatever directory.
func TestMakePlaces(t *testing.T) {
	for _, c := range []struct {
		path  string
		dir   int
		names []api.Dirent
	}{
		{"dir/a", aDir, kids("a", aNone, "deep", aDeep, "link", aFile, "sub", aSub)},
		{"dir/dee", aDir, kids("dee", aNone, "deep", aDeep, "link", aFile, "sub", aSub)},
		{"dir/deeper", aDir, kids("deep", aDeep, "deeper", aNone, "link", aFile, "sub", aSub)},
		{"dir/Sub", aDir, kids("Sub", aNone, "deep", aDeep, "link", aFile, "sub", aSub)},
		{"dir/\xff", aDir, kids("deep", aDeep, "link", aFile, "sub", aSub, "\xff", aNone)},
		{"dir/sub/x", aSub, kids("x", aNone)},
		{"dir/sub/" + rep("n", 255), aSub, kids(rep("n", 255), aNone)},
		{"new", aRoot, kids("block", aBlock, "char", aChar, "dir", aDir, "fifo", aFifo, "file", aFile, "new", aNone, "sym", aSym)},
	} {
		makes(t, sample(), call{name: "Make", c: me(), path: c.path, n: bare(api.KFifo, 0, 0, 0)}, aNone, c.dir, bare(api.KFifo, 0, 5, 50), c.names)
	}
}

// The first unused node is taken; where there is none, one more is there.
func TestMakeNumbers(t *testing.T) {
	k := call{name: "Make", c: me(), path: "dir/sub/x", n: bare(api.KFile, 0o600, 0, 0)}
	want := bare(api.KFile, 0o600, 5, 50)
	f := with(func(f *api.FS) { f.Nodes = append(f.Nodes, make([]api.Inode, 3)...) })
	makes(t, f, k, aNone, aSub, want, kids("x", aNone))
	f = with(func(f *api.FS) { f.Nodes = f.Nodes[:aNone] })
	g := makes(t, f, k, aNone, aSub, want, kids("x", aNone))
	k.path = "dir/sub/y"
	makes(t, g, k, aNone+1, aSub, want, kids("x", aNone, "y", aNone+1))
	// An unused one among the others.
	f = check(t, f, call{name: "Remove", c: me(), path: "char"}, 0)
	g = makes(t, f, k, aChar, aSub, want, kids("y", aChar))
	k.path = "dir/sub/z"
	makes(t, g, k, aNone, aSub, want, kids("y", aChar, "z", aNone))
	// Two of them.
	f = check(t, f, call{name: "Remove", c: me(), path: "file"}, 0)
	f = check(t, f, call{name: "Remove", c: me(), path: "dir/link"}, 0)
	makes(t, f, k, aFile, aSub, want, kids("z", aFile))
}

func TestMakeFull(t *testing.T) {
	f := New(0)
	for i := range 63 {
		f = check(t, f, call{name: "Make", c: all(), path: "n" + strconv.Itoa(i), n: bare(api.KDir, 0o700, 0, 0)}, 0)
	}
	if len(f.Nodes) != 64 || f.Op != 63 {
		t.Fatal("19.3:", drawn(f))
	}
	for _, kind := range []int{api.KDir, api.KFifo, api.KSym, api.KChar} {
		stays(t, f, call{name: "Make", c: all(), path: "n7/new", n: bare(kind, 0, 0, 0)}, api.ErrFull)
	}
	// A name more needs no node more.
	g := check(t, f, call{name: "Remove", c: all(), path: "n5"}, 0)
	g = makes(t, g, call{name: "Make", c: all(), path: "n7/new", n: bare(api.KFifo, 0, 0, 0)}, 6, 8, bare(api.KFifo, 0, 0, 0), kids("new", 6))
	g = check(t, g, call{name: "Link", c: all(), old: "n7/new", path: "more"}, 0)
	stays(t, g, call{name: "Make", c: all(), path: "n7/more", n: bare(api.KFifo, 0, 0, 0)}, api.ErrFull)
	if len(g.Nodes) != 64 {
		t.Error("19.3:", drawn(g))
	}
}

func TestMakeRoom(t *testing.T) {
	data := func(n int) call {
		return call{name: "Make", c: me(), path: "dir/new", n: api.Inode{Kind: api.KFile, Data: rep("d", n)}}
	}
	for _, c := range []struct{ room, size int }{{0, 0}, {1, 1}, {1, 0}, {100, 100}, {100, 99}, {65536, 65536}, {1 << 40, 65536}} {
		f := with(func(f *api.FS) { f.Room = c.room })
		if g := check(t, f, data(c.size), 0); g.Room != c.room-c.size || g.Nodes[aNone].Data != rep("d", c.size) {
			t.Errorf("19.3: Room %d, %d bytes: %d", c.room, c.size, g.Room)
		}
	}
	for _, c := range []struct{ room, size int }{{0, 1}, {1, 2}, {100, 101}, {65535, 65536}} {
		stays(t, with(func(f *api.FS) { f.Room = c.room }), data(c.size), api.ErrFull)
	}
	for _, room := range []int{0, 100, math.MaxInt} {
		stays(t, with(func(f *api.FS) { f.Room = room }), data(65537), api.ErrArg)
	}
	// Room doesn't come back.
	f := check(t, sample(), data(60), 0)
	f = check(t, f, call{name: "Remove", c: me(), path: "dir/new"}, 0)
	if f.Room != 40 || len(f.Nodes) != aNone+1 {
		t.Error("19.3: Room after Remove:", drawn(f))
	}
	stays(t, f, data(60), api.ErrFull)
	check(t, f, data(40), 0)
	// A link's Target takes none.
	k := call{name: "Make", c: me(), path: "dir/new", n: api.Inode{Kind: api.KSym, Target: rep("t", 4096)}}
	if g := check(t, f, k, 0); g.Room != 40 {
		t.Error("19.3: Room of a link:", g.Room)
	}
}

func TestMakeWrong(t *testing.T) {
	f := sample()
	good := call{name: "Make", c: all(), path: "dir/new", n: bare(api.KFile, 0o644, 0, 0)}
	for _, path := range append(wrongPaths(), "") {
		k := good
		k.path = path
		stays(t, f, k, api.ErrArg)
	}
	for _, kind := range []int{0, 2, 8, -1, 257, math.MaxInt, math.MinInt} {
		k := good
		k.n = api.Inode{Kind: kind}
		stays(t, f, k, api.ErrArg)
		k.n.Target = "file"
		stays(t, f, k, api.ErrArg)
	}
	for _, kind := range []int{api.KFile, api.KSym, api.KChar, api.KBlock, api.KDir, api.KFifo} {
		for _, mode := range []int{-1, 4096, 511 + 4096, 1 << 32, math.MaxInt, math.MinInt} {
			k := good
			k.n = bare(kind, mode, 0, 0)
			stays(t, f, k, api.ErrArg)
		}
		for _, do := range wrongContent(kind) {
			k := good
			k.n = bare(kind, 0o644, 0, 0)
			do(&k.n)
			stays(t, f, k, api.ErrArg)
		}
	}
}

// Where a parent is missing, is no directory, or may not be written in.
func TestMakeParent(t *testing.T) {
	k := func(path string) call {
		return call{name: "Make", c: me(), path: path, n: bare(api.KFifo, 0, 0, 0)}
	}
	for _, path := range []string{"none/x", "dir/none/x", "dir/sub/none/x/y"} {
		stays(t, sample(), k(path), api.ErrNone)
	}
	for _, path := range []string{"file/x", "sym/x", "char/x", "block/x", "fifo/x", "file/x/y", "dir/link/x"} {
		stays(t, sample(), k(path), api.ErrKind)
	}
	for _, path := range []string{"dir/deep", "dir/link", "dir/sub", "file", "sym", "dir"} {
		stays(t, sample(), k(path), api.ErrHave)
	}
	for _, c := range []struct {
		mode int
		c    api.Cred
		e    api.Errno
	}{
		{0o300, me(), 0}, {0o200, me(), 7}, {0o100, me(), 7}, {0o577, me(), 7}, {0o677, me(), 7}, {0o777, me(), 0},
		{0o003, who(9, 9, 0), 0}, {0o002, who(9, 9, 0), 7}, {0o001, who(9, 9, 0), 7}, {0o030, who(9, 50, 0), 0}, {0o773, who(9, 50, 0), 0}, {0o743, who(9, 50, 0), 7}, {0, who(9, 9, 2), 0}, {0, who(9, 9, 125), 7},
	} {
		f := with(moded(aDir, c.mode))
		k := call{name: "Make", c: c.c, path: "dir/new", n: bare(api.KDir, 0, 0, 0)}
		if c.e != 0 {
			stays(t, f, k, c.e)
		} else {
			makes(t, f, k, aNone, aDir, bare(api.KDir, 0, c.c.Uid, c.c.Gid), kids("deep", aDeep, "link", aFile, "new", aNone, "sub", aSub))
		}
	}
}

// Who has W by one group and X by another one has not both.
func TestWriteTogether(t *testing.T) {
	for _, c := range []struct {
		l  []api.Ace
		e  api.Errno
		by api.Cred
	}{
		{list(1, 0, 7, 3, 0, 2, 4, 60, 1, 5, 0, 7, 6, 0, 7), api.ErrDenied, who(9, 50, 0, 60)},
		{list(1, 0, 7, 3, 0, 1, 4, 60, 6, 5, 0, 7, 6, 0, 7), api.ErrDenied, who(9, 9, 0, 60, 50)},
		{list(1, 0, 7, 3, 0, 2, 4, 60, 3, 5, 0, 7, 6, 0, 0), 0, who(9, 50, 0, 60)},
		{list(1, 0, 7, 3, 0, 7, 4, 60, 7, 5, 0, 2, 6, 0, 7), api.ErrDenied, who(9, 50, 0, 60)},
		{list(1, 0, 7, 2, 9, 5, 3, 0, 7, 5, 0, 7, 6, 0, 7), api.ErrDenied, who(9, 50, 0)},
		{list(1, 0, 7, 2, 9, 3, 3, 0, 0, 5, 0, 7, 6, 0, 0), 0, who(9, 50, 0)},
	} {
		f := with(moded(aDir, acl.Mode(c.l)))
		f.Nodes[aDir].Meta.Acl = c.l
		check(t, f, call{name: "Make", c: c.by, path: "dir/new", n: bare(api.KFifo, 0, 0, 0)}, c.e)
		check(t, f, call{name: "Link", c: c.by, old: "fifo", path: "dir/new"}, c.e)
		check(t, f, call{name: "Remove", c: c.by, path: "dir/deep"}, c.e)
	}
}

// Link of each kind but a directory.
func TestLink(t *testing.T) {
	for _, old := range []string{"file", "dir/link", "sym", "char", "block", "fifo", "dir/deep"} {
		for _, path := range []string{"dir/sub/new", "new", "dir/new"} {
			f := sample()
			k := call{name: "Link", c: me(), old: old, path: path}
			g := check(t, f, k, 0)
			at, e := Find(g, me(), path)
			if e != 0 || at != paths[old] || g.Room != f.Room || !sameNode(f.Nodes[at], g.Nodes[at]) {
				t.Errorf("19.3: %s\nis answered by %s", shown(k, f), drawn(g))
			}
			if again, _ := Find(g, me(), old); again != at {
				t.Errorf("19.3: %s: the old name leads to %d", shown(k, f), again)
			}
		}
	}
	g := check(t, sample(), call{name: "Link", c: me(), old: "char", path: "dir/d"}, 0)
	want := sample()
	want.Nodes[aDir].Kids = kids("d", aChar, "deep", aDeep, "link", aFile, "sub", aSub)
	want.Op++
	if !same(g, want) {
		t.Error("19.3: Link:", drawn(g))
	}
	for _, c := range []struct {
		old, path string
		e         api.Errno
	}{
		{"", "new", api.ErrKind}, {"dir", "new", api.ErrKind}, {"dir/sub", "new", api.ErrKind}, {"dir", "dir/sub", api.ErrKind}, {"dir", "dir/sub/x", api.ErrKind},
		{"file", "file/x", api.ErrKind}, {"file", "sym/x", api.ErrKind}, {"file", "file/x/y", api.ErrKind},
		{"none", "new", api.ErrNone}, {"file", "none/x", api.ErrNone}, {"dir/none", "file", api.ErrNone}, {"file/x", "new", api.ErrKind}, {"none", "file/x", api.ErrNone}, {"file/x", "none/x", api.ErrKind},
		{"file", "sym", api.ErrHave}, {"file", "file", api.ErrHave}, {"file", "dir/link", api.ErrHave}, {"file", "dir", api.ErrHave}, {"dir/link", "dir/deep", api.ErrHave},
		{"file", "", api.ErrArg}, {"", "", api.ErrArg}, {"none", "", api.ErrArg},
	} {
		stays(t, sample(), call{name: "Link", c: all(), old: c.old, path: c.path}, c.e)
	}
	for _, path := range wrongPaths() {
		stays(t, sample(), call{name: "Link", c: all(), old: "file", path: path}, api.ErrArg)
		stays(t, sample(), call{name: "Link", c: all(), old: path, path: "new"}, api.ErrArg)
		stays(t, sample(), call{name: "Link", c: all(), old: path, path: path}, api.ErrArg)
	}
	// The node needn't be readable; the ways to it and to the parent must be open.
	f := with(moded(aDeep, 0))
	check(t, f, call{name: "Link", c: who(9, 9, 0), old: "dir/deep", path: "new"}, api.ErrDenied)
	f = with(moded(aDeep, 0), moded(aRoot, 0o757))
	check(t, f, call{name: "Link", c: who(9, 9, 0), old: "dir/deep", path: "new"}, 0)
	f = with(moded(aDir, 0o750), moded(aRoot, 0o757))
	stays(t, f, call{name: "Link", c: who(9, 9, 0), old: "dir/deep", path: "new"}, api.ErrDenied)
}

// Remove of a name of one, and of more.
func TestRemove(t *testing.T) {
	gone := func(path string, at, dir int, names []api.Dirent) {
		t.Helper()
		f := sample()
		k := call{name: "Remove", c: me(), path: path}
		g := check(t, f, k, 0)
		f.Nodes[dir].Kids = names
		if at > 0 {
			f.Nodes[at] = api.Inode{}
		}
		f.Op++
		if !same(g, f) {
			t.Errorf("19.3: %s\nis answered by %s", shown(k, f), drawn(g))
		}
	}
	gone("block", aBlock, aRoot, kids("char", aChar, "dir", aDir, "fifo", aFifo, "file", aFile, "sym", aSym))
	gone("char", aChar, aRoot, kids("block", aBlock, "dir", aDir, "fifo", aFifo, "file", aFile, "sym", aSym))
	gone("fifo", aFifo, aRoot, kids("block", aBlock, "char", aChar, "dir", aDir, "file", aFile, "sym", aSym))
	gone("sym", aSym, aRoot, kids("block", aBlock, "char", aChar, "dir", aDir, "fifo", aFifo, "file", aFile))
	gone("dir/deep", aDeep, aDir, kids("link", aFile, "sub", aSub))
	gone("dir/sub", aSub, aDir, kids("deep", aDeep, "link", aFile))
	// The node stays that has another name.
	gone("file", 0, aRoot, kids("block", aBlock, "char", aChar, "dir", aDir, "fifo", aFifo, "sym", aSym))
	gone("dir/link", 0, aDir, kids("deep", aDeep, "sub", aSub))
	for _, names := range [][]string{{"file", "dir/link"}, {"dir/link", "file"}} {
		f := check(t, sample(), call{name: "Remove", c: me(), path: names[0]}, 0)
		if f.Nodes[aFile].Data != "hello" {
			t.Error("19.3: the node is gone with the first of its names")
		}
		f = check(t, f, call{name: "Remove", c: me(), path: names[1]}, 0)
		if !sameNode(f.Nodes[aFile], api.Inode{}) || f.Room != 100 {
			t.Error("19.3: the node isn't gone with the last of its names:", drawn(f))
		}
		stays(t, f, call{name: "Remove", c: me(), path: names[1]}, api.ErrNone)
	}
	// Two names in one directory.
	f := check(t, sample(), call{name: "Link", c: me(), old: "dir/deep", path: "dir/more"}, 0)
	f = check(t, f, call{name: "Remove", c: me(), path: "dir/deep"}, 0)
	if f.Nodes[aDeep].Data != "deep" {
		t.Error("19.3: the node is gone with the first of its names")
	}
	check(t, f, call{name: "Remove", c: me(), path: "dir/more"}, 0)
	// A directory that has been emptied.
	f = sample()
	for _, path := range []string{"dir/deep", "dir/link", "dir/sub"} {
		stays(t, f, call{name: "Remove", c: all(), path: "dir"}, api.ErrBusy)
		f = check(t, f, call{name: "Remove", c: me(), path: path}, 0)
	}
	f = check(t, f, call{name: "Remove", c: me(), path: "dir"}, 0)
	if !sameNode(f.Nodes[aDir], api.Inode{}) || len(f.Nodes) != aNone+1 {
		t.Error("19.3: Remove of a directory:", drawn(f))
	}
}

func TestRemoveNot(t *testing.T) {
	for _, c := range []struct {
		path string
		e    api.Errno
	}{
		{"", api.ErrArg}, {"none", api.ErrNone}, {"none/x", api.ErrNone}, {"dir/none", api.ErrNone}, {"dir/sub/x", api.ErrNone},
		{"file/x", api.ErrKind}, {"sym/x", api.ErrKind}, {"file/x/y", api.ErrKind}, {"dir", api.ErrBusy},
	} {
		stays(t, sample(), call{name: "Remove", c: all(), path: c.path}, c.e)
	}
	for _, path := range wrongPaths() {
		stays(t, sample(), call{name: "Remove", c: all(), path: path}, api.ErrArg)
	}
	for _, c := range []struct {
		mode int
		c    api.Cred
		e    api.Errno
	}{
		{0o300, me(), 0}, {0o577, me(), 7}, {0o677, me(), 7}, {0o003, who(9, 9, 0), 0}, {0o002, who(9, 9, 0), 7}, {0o775, who(9, 9, 0), 7},
		{0, who(9, 9, 2), 0}, {0o100, who(9, 9, 2), 0}, {0, who(9, 9, 125), 7}, {0o775, who(9, 9, 125), 7}, {0o775, who(9, 50, 0), 0},
	} {
		f := with(moded(aDir, c.mode), given(aDeep, 77))
		k := call{name: "Remove", c: c.c, path: "dir/deep"}
		if c.e != 0 {
			stays(t, f, k, c.e)
		} else {
			check(t, f, k, 0)
		}
	}
}

// Sticky keeps away who owns neither the directory nor the node.
func TestRemoveSticky(t *testing.T) {
	for _, c := range []struct {
		dir, node int // whose they are
		c         api.Cred
		e         api.Errno
	}{
		{5, 5, me(), 0}, {5, 9, me(), 0}, {9, 5, me(), 0}, {9, 9, me(), 7}, {9, 8, me(), 7}, {0, 0, me(), 7},
		{9, 9, who(5, 50, 4), 0}, {9, 9, who(5, 50, 127-4), 7}, {9, 9, who(5, 50, 2), 7}, {9, 9, who(5, 9, 0, 9), 7},
	} {
		for _, path := range []string{"dir/deep", "dir/sub", "dir/link"} {
			at := paths[path]
			k := call{name: "Remove", c: c.c, path: path}
			f := with(moded(aDir, 0o1777), given(aDir, c.dir), given(at, c.node))
			if c.e != 0 {
				stays(t, f, k, c.e)
			} else {
				check(t, f, k, 0)
			}
			// It is the parent's Mode that counts.
			f.Nodes[aDir].Meta.Mode = 0o6777
			f.Nodes[at].Meta.Mode = 0o1777
			f.Nodes[aRoot].Meta.Mode = 0o1777
			check(t, f, k, 0)
		}
		// It doesn't keep anybody from making or linking.
		f := with(moded(aDir, 0o1777), given(aDir, c.dir))
		check(t, f, call{name: "Make", c: c.c, path: "dir/new", n: bare(api.KDir, 0, 0, 0)}, 0)
		check(t, f, call{name: "Link", c: c.c, old: "fifo", path: "dir/new"}, 0)
	}
	// Who may write may do so by Sticky alone no more.
	stays(t, with(moded(aDir, 0o1555), given(aDir, 9)), call{name: "Remove", c: me(), path: "dir/deep"}, api.ErrDenied)
}
