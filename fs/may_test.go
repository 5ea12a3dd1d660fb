package fs

import (
	"math"
	"slices"
	"strings"
	"testing"

	"gripsack/api"
)

func checkMay(t *testing.T, f api.FS, want bool) {
	t.Helper()
	before := twin(f)
	if May(f) != want {
		t.Errorf("19.1: May is %t for %s", !want, drawn(f))
	}
	if wantMay(f) != want {
		t.Errorf("the words say %t for %s", !want, drawn(f))
	}
	if !same(f, before) {
		t.Error("R3: the argument is changed")
	}
}

// add appends a node that a name in the root leads to.
func add(n api.Inode) func(f *api.FS) {
	return func(f *api.FS) {
		f.Nodes[0].Kids = append(f.Nodes[0].Kids, api.Dirent{Name: "zz", Ino: len(f.Nodes)})
		f.Nodes = append(f.Nodes, n)
	}
}

// said is a node with something else said of it.
func said(kind int, do func(n *api.Inode)) api.Inode {
	n := node(kind, 0o644)
	switch kind {
	case api.KSym:
		n.Meta.Mode, n.Target = 0o777, "x"
	case api.KHard:
		n = api.Inode{Kind: kind, Target: "x"}
	}
	do(&n)
	return n
}

func TestMay(t *testing.T) {
	for i, do := range []func(f *api.FS){
		func(f *api.FS) {},
		func(f *api.FS) { f.Room, f.Op, f.Faults = 0, 0, nil },
		func(f *api.FS) { f.Room, f.Op = math.MaxInt, math.MaxInt },
		func(f *api.FS) { f.Faults = []int{math.MinInt, -1, -1, 0, 5, 3, math.MaxInt} },
		func(f *api.FS) { f.Faults = make([]int, 1000) },
		func(f *api.FS) { f.Nodes = f.Nodes[:aNone] },
		func(f *api.FS) { f.Nodes = append(f.Nodes, make([]api.Inode, 64-len(f.Nodes))...) },
		func(f *api.FS) { *f = New(0) },
		func(f *api.FS) { f.Nodes = append(New(0).Nodes, make([]api.Inode, 63)...) },
		// A node of Kind 0 with lists that are empty, not nil.
		func(f *api.FS) {
			f.Nodes[aNone] = api.Inode{Kids: []api.Dirent{}, Meta: api.Meta{Acl: []api.Ace{}, Default: []api.Ace{}, Xattrs: []api.Xattr{}}}
		},
		func(f *api.FS) { f.Nodes[aFile].Kids = []api.Dirent{} },
		// Names of all sorts, in the order of their bytes.
		func(f *api.FS) {
			f.Nodes[aSub].Kids = kids("\x01", aFile, " ", aFile, "...", aFile, ".a", aFile, "A", aFile, "B", aFile, "a", aFile, "a.", aFile, "aa", aFile, "\x80", aFile, "\xff", aFile, "\xff"+rep("n", 254), aFile)
		},
		func(f *api.FS) { f.Nodes[aSub].Kids = kids("char", aChar, "fifo", aFifo, "sym", aSym) },
		add(said(api.KFile, func(n *api.Inode) { n.Data = rep("d", 65536) })),
		add(said(api.KSym, func(n *api.Inode) { n.Target = rep("t", 4096) })),
		add(said(api.KSym, func(n *api.Inode) { n.Target = "//.././" })),
		add(said(api.KChar, func(n *api.Inode) { n.Major, n.Minor = 2097151, 2097151 })),
		add(said(api.KBlock, func(n *api.Inode) { n.Major, n.Minor = 2097151, 2097151 })),
		add(said(api.KDir, func(n *api.Inode) { n.Meta.Default = plainList() })),
		add(said(api.KFile, func(n *api.Inode) { n.Meta.Caps = api.Caps{Ver: 3, Root: 5} })),
		add(said(api.KFile, func(n *api.Inode) { n.Meta.Flags, n.Meta.Mode = 15, 0o7777 })),
		// What no entry has room for in its records is a node nevertheless.
		add(said(api.KFile, func(n *api.Inode) { n.Meta.Xattrs = greatest() })),
	} {
		if t.Failed() {
			t.Fatal("case", i-1)
		}
		checkMay(t, with(do), true)
	}
}

// flaws make a file system wrong for one reason each.
func flaws() []func(f *api.FS) {
	l := []func(f *api.FS){
		func(f *api.FS) { f.Nodes = nil },
		func(f *api.FS) { f.Nodes = []api.Inode{} },
		func(f *api.FS) { f.Nodes = append(f.Nodes, make([]api.Inode, 65-len(f.Nodes))...) },
		func(f *api.FS) { f.Nodes = append(f.Nodes, make([]api.Inode, 1000)...) },
		func(f *api.FS) { f.Room = -1 },
		func(f *api.FS) { f.Op = -1 },
		func(f *api.FS) { f.Room = math.MinInt },
		// The root is none.
		func(f *api.FS) { f.Nodes = make([]api.Inode, 3) },
		func(f *api.FS) { f.Nodes = []api.Inode{said(api.KFile, func(*api.Inode) {})} },
		func(f *api.FS) { f.Nodes = []api.Inode{said(api.KSym, func(*api.Inode) {})} },
		func(f *api.FS) { f.Nodes[aRoot].Meta.Mode = 4096 },
		func(f *api.FS) { f.Nodes[aRoot].Data = "x" },
		// A node of Kind 0 with something in it.
		func(f *api.FS) { f.Nodes[aNone].Data = "x" },
		func(f *api.FS) { f.Nodes[aNone].Target = "x" },
		func(f *api.FS) { f.Nodes[aNone].Major = 1 },
		func(f *api.FS) { f.Nodes[aNone].Minor = 1 },
		func(f *api.FS) { f.Nodes[aNone].Meta.Mode = 1 },
		func(f *api.FS) { f.Nodes[aNone].Meta.Uid = 1 },
		func(f *api.FS) { f.Nodes[aNone].Meta.Mtime.Nano = 1 },
		func(f *api.FS) { f.Nodes[aNone].Meta.Acl = plainList() },
		func(f *api.FS) { f.Nodes[aNone].Kids = kids("x", aFile) },
		// Kids of what is no directory.
		func(f *api.FS) { f.Nodes[aFile].Kids = kids("x", aFifo) },
		func(f *api.FS) { f.Nodes[aSym].Kids = kids("x", aFifo) },
		func(f *api.FS) { f.Nodes[aFifo].Kids = kids("x", aFile) },
		// Numbers that lead to nothing, or to the root.
		func(f *api.FS) { f.Nodes[aSub].Kids = kids("x", 0) },
		func(f *api.FS) { f.Nodes[aRoot].Kids = append(f.Nodes[aRoot].Kids, kids("x", 0)...) },
		func(f *api.FS) { f.Nodes[aSub].Kids = kids("x", -1) },
		func(f *api.FS) { f.Nodes[aSub].Kids = kids("x", aNone) },
		func(f *api.FS) { f.Nodes[aSub].Kids = kids("x", len(f.Nodes)) },
		func(f *api.FS) { f.Nodes[aSub].Kids = kids("x", aFile-256) },
		func(f *api.FS) { f.Nodes[aSub].Kids = kids("x", math.MaxInt) },
		func(f *api.FS) { f.Nodes[aSub].Kids = kids("x", math.MinInt) },
		// Directories with two names.
		func(f *api.FS) { f.Nodes[aRoot].Kids = append(f.Nodes[aRoot].Kids, kids("zz", aSub)...) },
		func(f *api.FS) { f.Nodes[aDir].Kids = append(f.Nodes[aDir].Kids, kids("zz", aSub)...) },
		func(f *api.FS) { f.Nodes[aRoot].Kids = append(f.Nodes[aRoot].Kids, kids("zz", aDir)...) },
		func(f *api.FS) { f.Nodes[aSub].Kids = kids("x", aDir) },
		func(f *api.FS) { f.Nodes[aSub].Kids = kids("x", aSub) },
		// Nodes that none leads to: alone, and in a ring.
		func(f *api.FS) { f.Nodes = append(f.Nodes, node(api.KFile, 0)) },
		func(f *api.FS) { f.Nodes = append(f.Nodes, node(api.KDir, 0)) },
		func(f *api.FS) { f.Nodes[aDir].Kids = f.Nodes[aDir].Kids[:2] },
		func(f *api.FS) { f.Nodes[aDir].Kids = f.Nodes[aDir].Kids[1:] },
		func(f *api.FS) { f.Nodes[aRoot].Kids = slices.Delete(f.Nodes[aRoot].Kids, 2, 3) },
		func(f *api.FS) {
			f.Nodes = append(f.Nodes, node(api.KDir, 0))
			f.Nodes[aNone+1].Kids = kids("x", aNone+1)
		},
		func(f *api.FS) {
			f.Nodes = append(f.Nodes, node(api.KDir, 0), node(api.KDir, 0), node(api.KFile, 0))
			f.Nodes[aNone+1].Kids = kids("x", aNone+2)
			f.Nodes[aNone+2].Kids = kids("x", aNone+1, "y", aNone+3)
		},
		func(f *api.FS) {
			f.Nodes = append(f.Nodes, node(api.KDir, 0), node(api.KFile, 0))
			f.Nodes[aNone+1].Kids = kids("x", aNone+2)
		},
	}
	return append(append(l, wrongNames()...), wrongNodes()...)
}

// wrongNames are names that are not valid, or out of order.
func wrongNames() []func(f *api.FS) {
	var l []func(f *api.FS)
	for _, name := range []string{"", ".", "..", "/", "a/b", "a/", "/a", "\x00", "a\x00b", rep("n", 256), rep("n", 4097)} {
		l = append(l, func(f *api.FS) { f.Nodes[aSub].Kids = kids(name, aFile) })
	}
	for _, names := range [][]string{{"b", "a"}, {"a", "a"}, {"a", "c", "b"}, {"a", "b", "a"}, {"a", "b", "b"}, {"aa", "a"}, {"a", "B"}, {"\xff", "\x7f"}} {
		l = append(l, func(f *api.FS) {
			for _, name := range names {
				f.Nodes[aSub].Kids = append(f.Nodes[aSub].Kids, api.Dirent{Name: name, Ino: aFile})
			}
		})
	}
	return l
}

// wrongNodes are nodes that a name leads to, but that are not valid.
func wrongNodes() []func(f *api.FS) {
	var l []func(f *api.FS)
	for _, kind := range []int{-1, 2, 8, 9, 256 + 1, math.MinInt, math.MaxInt} {
		l = append(l, add(api.Inode{Kind: kind}), add(node(kind, 0o644)))
	}
	l = append(l, add(api.Inode{Kind: api.KHard, Target: "file"}), add(api.Inode{}))
	for _, kind := range []int{api.KFile, api.KSym, api.KChar, api.KBlock, api.KDir, api.KFifo} {
		for _, do := range wrongContent(kind) {
			l = append(l, add(said(kind, do)))
		}
		for _, do := range []func(m *api.Meta){
			func(m *api.Meta) { m.Mode = -1 },
			func(m *api.Meta) { m.Mode = 4096 },
			func(m *api.Meta) { m.Uid = -1 },
			func(m *api.Meta) { m.Gid = 1 << 31 },
			func(m *api.Meta) { m.Mtime.Nano = 1000000000 },
			func(m *api.Meta) { m.Acl = plainList() },
			func(m *api.Meta) { m.Acl = plainList()[1:] },
			func(m *api.Meta) { m.Default = plainList()[1:] },
			func(m *api.Meta) { m.Xattrs = attributes("b", "", "a", "") },
			func(m *api.Meta) { m.Caps.Ver = 1 },
			func(m *api.Meta) { m.Flags = 16 },
		} {
			l = append(l, add(said(kind, func(n *api.Inode) { do(&n.Meta) })))
		}
		if kind != api.KFile {
			l = append(l, add(said(kind, func(n *api.Inode) { n.Meta.Caps.Ver = 2 })))
		}
		if kind != api.KDir {
			l = append(l, add(said(kind, func(n *api.Inode) { n.Meta.Default = plainList() })))
		}
	}
	return append(l, add(said(api.KSym, func(n *api.Inode) { n.Meta.Mode = 0o644 })), add(said(api.KSym, func(n *api.Inode) { n.Meta.Flags = 4 })))
}

// wrongContent are what a node of a kind has not, for one reason each.
func wrongContent(kind int) []func(n *api.Inode) {
	var l []func(n *api.Inode)
	if kind == api.KFile {
		l = append(l, func(n *api.Inode) { n.Data = rep("d", 65537) })
	} else {
		l = append(l, func(n *api.Inode) { n.Data = "d" })
	}
	if kind == api.KSym {
		for _, target := range []string{"", "\x00", "a\x00", rep("t", 4097)} {
			l = append(l, func(n *api.Inode) { n.Target = target })
		}
	} else {
		l = append(l, func(n *api.Inode) { n.Target = "t" })
	}
	numbers := []int{1, -1, 2097151}
	if kind == api.KChar || kind == api.KBlock {
		numbers = []int{-1, 2097152, math.MaxInt, math.MinInt}
	}
	for _, number := range numbers {
		l = append(l, func(n *api.Inode) { n.Major = number }, func(n *api.Inode) { n.Minor = number })
	}
	return l
}

func TestMayNot(t *testing.T) {
	for i, do := range flaws() {
		if checkMay(t, with(do), false); t.Failed() {
			t.Fatal("case", i)
		}
	}
}

// Two flaws are no better than one.
func TestMayNotTwo(t *testing.T) {
	for i, a := range flaws() {
		for j, b := range flaws() {
			var f api.FS
			func() {
				// One flaw may have taken away the node that the other one is in.
				defer func() { _ = recover() }()
				f = with(a, b)
			}()
			if May(f) && !wantMay(f) {
				t.Fatal("19.1: May is true with the flaws", i, j)
			}
		}
	}
}

// Paths of 64 names and of 4096 bytes, and those that are longer.
func TestMayFar(t *testing.T) {
	far := func(names []string, last string) api.FS {
		f := chain(names)
		f.Nodes[0].Kids = append(f.Nodes[0].Kids, kids("zz", len(names)+1)...)
		f.Nodes = append(f.Nodes[:len(names)+1], node(api.KFile, 0))
		f.Nodes[len(names)].Kids = kids(last, len(names)+1)
		return f
	}
	checkMay(t, far(slices.Repeat([]string{"n"}, 62), "n"), true)
	long := slices.Repeat([]string{rep("n", 255)}, 15)
	checkMay(t, far(long, rep("n", 255)), true)
	long = append(long, rep("n", 253))
	checkMay(t, far(long, "n"), true)
	checkMay(t, far(long, "nn"), true)
	checkMay(t, far(long, "nnn"), false)
	long[15] = rep("n", 254)
	checkMay(t, far(long, "n"), true)
	// The file has another name, by which its path is short.
	checkMay(t, far(long, "nn"), false)
	f := chain(append(long, "n"))
	checkMay(t, f, true)
	f.Nodes[16].Kids[0].Name = "nn"
	checkMay(t, f, false)
	// The bytes of a path count, not its characters.
	f = chain(append(slices.Repeat([]string{rep("ä", 127) + "n"}, 15), rep("ä", 127), "n"))
	checkMay(t, f, true)
	f.Nodes[16].Kids[0].Name = "ä"
	checkMay(t, f, false)
	// A directory that is met by way of many others.
	deep := chain(slices.Repeat([]string{"n"}, 63))
	checkMay(t, deep, true)
	deep.Nodes[63].Kids = kids("n", 63)
	checkMay(t, deep, false)
	deep.Nodes[63].Kids = kids("n", 0)
	checkMay(t, deep, false)
	deep.Nodes[63].Kids = kids("n", 31)
	checkMay(t, deep, false)
}

// Many names of one node, and many names that lead to directories twice.
func TestMayMany(t *testing.T) {
	f := sample()
	for i := range 20000 {
		f.Nodes[aSub].Kids = append(f.Nodes[aSub].Kids, api.Dirent{Name: rep("0", 5) + string(rune('0'+i/10000)) + strings.Repeat("1", i%10000/100) + "2" + rep("3", i%100), Ino: aFile})
	}
	slices.SortFunc(f.Nodes[aSub].Kids, func(a, b api.Dirent) int { return strings.Compare(a.Name, b.Name) })
	if !May(f) || !wantMay(f) {
		t.Error("19.1: May is false for many names")
	}
	// Each directory has all names: the ways are too many to be gone.
	l := make([]api.Inode, 64)
	for i := range l {
		l[i] = node(api.KDir, 0o755)
		for k := 1; k < 64; k++ {
			l[i].Kids = append(l[i].Kids, api.Dirent{Name: string(rune('0' + k)), Ino: k})
		}
	}
	checkMay(t, api.FS{Nodes: l}, false)
}
