package fs

import (
	"maps"
	"math"
	"math/rand"
	"reflect"
	"slices"
	"strings"
	"sync"
	"testing"
	"unsafe"

	"gripsack/acl"
	"gripsack/api"
)

// dice answers a number from 0 to n-1.
type dice func(n int) int

func random(seed int64) dice { return rand.New(rand.NewSource(seed)).Intn }

func pick[T any](d dice, l ...T) T { return l[d(len(l))] }

// somePath leads to one of a few names, or through them; some lead to nothing.
func somePath(d dice) string {
	if d(40) == 0 {
		return pick(d, wrongPaths()...)
	}
	names := make([]string, pick(d, 0, 1, 1, 1, 2, 2, 2, 2, 3, 3))
	for i := range names {
		names[i] = pick(d, "a", "b", "c", "d")
	}
	return strings.Join(names, "/")
}

func someCred(d dice) api.Cred {
	c := api.Cred{Uid: d(3), Gid: d(3)}
	for range pick(d, 0, 0, 1, 2) {
		c.Groups = append(c.Groups, d(4))
	}
	switch d(6) {
	case 0, 1:
		c.Powers = 127
	case 2:
		c.Powers = 1 << d(7)
	case 3:
		c.Powers = d(128)
	case 4:
		c.Powers = 127 - 1<<d(7)
	}
	return c
}

func someMode(d dice) int {
	return pick(d, 0o777, 0o777, 0o755, 0o1777, 0o640, 0o6755, 0, d(4096), d(4096), pick(d, -1, 4096, 4095, math.MinInt))
}

func someList(d dice) []api.Ace {
	if d(3) == 0 {
		return nil
	}
	l := list(1, 0, d(8))
	named := false
	for id := range 3 {
		if d(4) == 0 {
			l, named = append(l, list(2, id, d(8))...), true
		}
	}
	l = append(l, list(3, 0, d(8))...)
	for id := range 3 {
		if d(4) == 0 {
			l, named = append(l, list(4, id, d(8))...), true
		}
	}
	if named != (d(40) == 0) {
		l = append(l, list(5, 0, d(8))...)
	}
	return append(l, list(6, 0, pick(d, d(8), d(8), d(8), 7, 8))...)
}

func someXattrs(d dice) []api.Xattr {
	var l []api.Xattr
	for _, name := range []string{"a", "security.a", "security.b", "trusted.", "trusted.x", "user.a"} {
		if d(3) == 0 {
			l = append(l, api.Xattr{Name: name, Value: pick(d, "1", "2")})
		}
	}
	if len(l) > 1 && d(30) == 0 {
		l[0], l[1] = l[1], l[0]
	}
	return l
}

func someNode(d dice) api.Inode {
	kind := pick(d, 1, 1, 1, 3, 4, 5, 6, 6, 6, 6, 6, 7, 0, 2, 8)
	if d(4) > 0 {
		kind = pick(d, 1, 6)
	}
	n := bare(kind, someMode(d), d(3), d(3))
	if kind == api.KFile {
		n.Data = rep("d", pick(d, 0, 0, 1, 5, 9))
	}
	switch d(60) {
	case 0:
		n.Target = "x"
	case 1:
		n.Data = "x"
	case 2:
		n.Major = pick(d, -1, 1, 2097152)
	}
	return n
}

// someCall is often of a node that there is.
func someCall(d dice, f api.FS) call {
	k := call{name: pick(d, functions...), c: someCred(d), path: somePath(d), old: somePath(d)}
	if d(4) == 0 {
		k.name = "Make"
	}
	there := slices.Sorted(maps.Keys(worldOf(f).paths))
	if d(2) == 0 && k.name != "Make" && k.name != "Link" {
		k.path = pick(d, there...)
	}
	if d(4) > 0 {
		k.old = pick(d, there...)
	}
	k.n, k.mode, k.acl, k.def, k.xattrs = someNode(d), someMode(d), someList(d), nil, someXattrs(d)
	if d(3) == 0 {
		k.def = someList(d)
	}
	k.uid, k.gid = pick(d, 0, 1, 2, k.c.Uid), pick(d, 0, 1, 2, 3, k.c.Gid)
	if d(30) == 0 {
		k.uid = pick(d, -1, 1<<31, math.MaxInt32)
	}
	k.caps = pick(d, api.Caps{}, api.Caps{Ver: 2, Permitted: 1}, api.Caps{Ver: 3, Root: 5}, api.Caps{Root: 1})
	k.t = api.Stamp{Sec: d(9) - 4, Nano: pick(d, 0, 1, 999999999, 999999999+d(2))}
	k.flags = pick(d, 0, 0, 0, 4, 8, 12, d(16), d(18)-1)
	return k
}

// someWorld is a file system with a few nodes, of several owners, made by hand.
func someWorld(d dice) api.FS {
	w := &world{paths: map[string]int{"": 0}, room: pick(d, 0, 9, 30, 1000), op: d(5)}
	w.nodes = []api.Inode{{Kind: api.KDir, Meta: api.Meta{Mode: 0o777}}}
	dirs := []string{""}
	for range pick(d, 0, 3, 8, 20, 50) {
		if d(5) == 0 {
			w.nodes = append(w.nodes, api.Inode{})
			continue
		}
		path := strings.TrimPrefix(pick(d, dirs...)+"/"+pick(d, "a", "b", "c", "d"), "/")
		if _, there := w.paths[path]; there || strings.Count(path, "/") > 3 {
			continue
		}
		n := bare(pick(d, 1, 1, 3, 4, 6, 6, 6, 7), pick(d, 0o777, 0o777, 0o777, 0o1777, 0o755, 0o711, d(4096)), d(3), d(3))
		decorate(d, &n)
		w.nodes = append(w.nodes, n)
		w.paths[path] = len(w.nodes) - 1
		if n.Kind == api.KDir {
			dirs = append(dirs, path)
		} else if d(3) == 0 {
			w.paths[path+"x"] = len(w.nodes) - 1
		}
	}
	for range d(3) {
		w.faults = append(w.faults, w.op+d(30))
	}
	return w.fs()
}

// decorate says more of a node.
func decorate(d dice, n *api.Inode) {
	if n.Kind == api.KSym {
		n.Meta.Mode = 0o777
		return
	}
	if d(4) == 0 {
		n.Meta.Flags = d(16)
	}
	if l := someList(d); d(3) == 0 && acl.May(l) {
		n.Meta.Acl, n.Meta.Mode = l, n.Meta.Mode/512*512+acl.Mode(l)
		if n.Kind == api.KDir {
			n.Meta.Default = l
		}
	}
	if n.Kind == api.KFile && d(3) == 0 {
		n.Meta.Caps = api.Caps{Ver: 2, Permitted: 5}
	}
	if d(3) == 0 {
		n.Meta.Xattrs = attributes("security.a", "1", "user.a", "2")
	}
}

// Scripts of calls of all sorts, each held against the words.
func TestMixed(t *testing.T) {
	met := map[string]map[api.Errno]int{}
	for _, name := range append(functions, "Find") {
		met[name] = map[api.Errno]int{}
	}
	d := random(19)
	for range 3000 {
		f := someWorld(d)
		for range 12 {
			k := someCall(d, f)
			_, e := k.want(f)
			met[k.name][e]++
			g := check(t, f, k, e)
			if t.Failed() {
				t.FailNow()
			}
			met["Find"][mixedFind(t, f, d)]++
			f = g
		}
	}
	want := map[string][]api.Errno{
		"Find": {0, 1, 2, 7, 10}, "Make": {0, 1, 2, 3, 7, 8, 9, 10}, "Link": {0, 1, 2, 3, 7, 8, 10}, "Remove": {0, 1, 2, 7, 8, 10, 11},
		"Chown": {0, 1, 2, 7, 8, 10}, "Chmod": {0, 1, 2, 7, 8, 10}, "SetAcl": {0, 1, 2, 7, 8, 10}, "SetXattrs": {0, 1, 2, 7, 8, 10}, "SetCaps": {0, 1, 2, 7, 8, 10}, "SetTime": {0, 1, 2, 7, 8, 10}, "SetFlags": {0, 1, 2, 7, 8, 10},
	}
	for name, l := range want {
		for _, e := range l {
			if met[name][e] < 40 {
				t.Errorf("the test meets %s with the error %d %d times", name, e, met[name][e])
			}
		}
		if len(met[name]) != len(l) {
			t.Errorf("19.3: errors of %s: %v", name, met[name])
		}
	}
}

func mixedFind(t *testing.T, f api.FS, d dice) api.Errno {
	t.Helper()
	path, c := somePath(d), someCred(d)
	if path != "" && !wantPath(path) {
		checkFind(t, f, c, path, 0, api.ErrArg)
		return api.ErrArg
	}
	at, e := worldOf(f).find(c, path)
	checkFind(t, f, c, path, at, e)
	return e
}

// Two calls that end without an error: what one does to the path of another.
func TestMixedNames(t *testing.T) {
	d := random(192)
	for range 4000 {
		f := someWorld(d)
		f.Faults = nil
		ways := worldOf(f).paths
		for path, at := range ways {
			if got, e := Find(f, all(), path); got != at || e != api.OK {
				t.Fatalf("19.2: Find of %q: %d, error %d in %s", path, got, e, drawn(f))
			}
		}
		k := someCall(d, f)
		g, e := k.do(f)
		if e != api.OK {
			continue
		}
		switch now := worldOf(g).paths; k.name {
		case "Make", "Link":
			if _, there := now[k.path]; !there || len(now) != len(ways)+1 {
				t.Fatalf("19.3: %s\nis answered by %s", shown(k, f), drawn(g))
			}
		case "Remove":
			if _, there := now[k.path]; there || len(now) != len(ways)-1 {
				t.Fatalf("19.3: %s\nis answered by %s", shown(k, f), drawn(g))
			}
		default:
			if !reflect.DeepEqual(now, ways) {
				t.Fatalf("19.3: %s\nis answered by %s", shown(k, f), drawn(g))
			}
		}
	}
}

// turn changes one thing in a file system; many of the results are not valid.
func turn(d dice, f *api.FS) {
	n := &f.Nodes[d(len(f.Nodes))]
	number := pick(d, -1, 0, 1, 2, 3, len(f.Nodes)-1, len(f.Nodes), 64, 511, 4096)
	text := pick(d, "", "a", "b", "x", ".", "..", "a/b", "\x00", "\xff", rep("n", 255), rep("n", 256))
	lists := [][]api.Ace{nil, plainList(), plainList()[1:]}
	switch d(20) {
	case 0:
		f.Room = number
	case 1:
		f.Op = number
	case 2:
		f.Faults = append(f.Faults, number)
	case 3:
		f.Nodes = append(f.Nodes, api.Inode{Kind: pick(d, 0, 0, 1, 6)})
	case 4:
		f.Nodes = f.Nodes[:d(len(f.Nodes)+1)]
	case 5:
		n.Kind = d(9)
	case 6:
		n.Meta.Mode, n.Meta.Acl = number, pick(d, lists...)
	case 7:
		n.Meta.Uid = number
	case 8:
		n.Data = text
	case 9:
		n.Target = text
	case 10:
		n.Minor = number
	case 11:
		n.Meta.Flags = number
	case 12:
		n.Meta.Default = pick(d, lists...)
	case 13:
		n.Kids = append(n.Kids, api.Dirent{Name: text, Ino: number})
	case 14:
		*n = api.Inode{}
	case 15:
		f.Nodes = append(f.Nodes, make([]api.Inode, max(0, 63+d(3)-len(f.Nodes)))...)
	default:
		if len(n.Kids) == 0 {
			return
		}
		switch i := d(len(n.Kids)); d(5) {
		case 0:
			n.Kids[i].Ino = number
		case 1:
			n.Kids[i].Name = text
		case 2:
			n.Kids = slices.Delete(n.Kids, i, i+1)
		case 3:
			slices.Reverse(n.Kids)
		case 4:
			n.Kids[i].Ino = n.Kids[d(len(n.Kids))].Ino
		}
	}
}

// May of file systems in which a few things have been turned.
func TestMixedMay(t *testing.T) {
	d := random(191)
	met := map[bool]int{}
	for range 60000 {
		f := someWorld(d)
		for range pick(d, 0, 1, 1, 1, 2, 3) {
			if len(f.Nodes) > 0 {
				turn(d, &f)
			}
		}
		want := wantMay(f)
		met[want]++
		if checkMay(t, f, want); t.Failed() {
			t.FailNow()
		}
	}
	if met[true] < 10000 || met[false] < 10000 {
		t.Errorf("the test meets %v", met)
	}
}

// piece is where a slice lies in memory.
type piece struct{ from, to uintptr }

// pieces are where all slices of v lie, with what is behind their ends.
func pieces(v reflect.Value) []piece {
	var l []piece
	switch v.Kind() {
	case reflect.Struct:
		for i := range v.NumField() {
			l = append(l, pieces(v.Field(i))...)
		}
	case reflect.Slice:
		whole := v.Slice(0, v.Cap())
		if v.Cap() > 0 {
			l = append(l, piece{v.Pointer(), v.Pointer() + uintptr(v.Cap())*v.Type().Elem().Size()})
		}
		for i := range whole.Len() {
			l = append(l, pieces(whole.Index(i))...)
		}
	}
	return l
}

// apart tells whether no two of these share memory.
func apart(l []piece) bool {
	slices.SortFunc(l, func(a, b piece) int { return int(a.from) - int(b.from) })
	for i := 1; i < len(l); i++ {
		if l[i].from < l[i-1].to {
			return false
		}
	}
	return true
}

// crowded is a file system whose lists share memory, with room behind their ends.
func crowded() (api.FS, call) {
	f := sample()
	aces := append(plainList(), plainList()...)[:3]
	notes := append(attributes("trusted.a", "b"), attributes("x", "y")...)[:1]
	for _, at := range []int{aRoot, aDir, aSub, aDeep, aFile} {
		n := &f.Nodes[at]
		n.Meta.Mode, n.Meta.Acl, n.Meta.Xattrs = 0o421, aces, notes
		if n.Kind == api.KDir {
			n.Meta.Default = aces
		}
	}
	f.Nodes[aSub].Kids = kids("x", aFile, "y", aFile)
	f.Nodes = append(f.Nodes, f.Nodes...)[:len(f.Nodes)]
	f.Faults = make([]int, 3, 9)
	k := usual("Make")
	k.acl, k.def, k.xattrs = aces, aces, notes
	return f, k
}

// R3: what is answered shares no memory with what was given, nor with itself.
func TestNewMemory(t *testing.T) {
	for _, name := range functions {
		for _, e := range []api.Errno{api.OK, api.ErrArg, api.ErrFault, api.ErrNone} {
			f, k := crowded()
			k.name, k.path = name, usual(name).path
			if name == "SetAcl" {
				k.path = "dir"
			}
			switch e {
			case api.ErrArg:
				k.path = "/"
			case api.ErrFault:
				f.Faults[1] = f.Op + 1
			case api.ErrNone:
				k.path = "none/x"
			}
			g := check(t, f, k, e)
			answer := pieces(reflect.ValueOf(g))
			if !apart(answer) {
				t.Errorf("R3: lists of the answer share memory: %s", shown(k, f))
			}
			for _, given := range []reflect.Value{reflect.ValueOf(f), reflect.ValueOf(k)} {
				for _, p := range pieces(given) {
					if !apart(append(slices.Clone(answer), p)) {
						t.Errorf("R3: the answer shares memory with an argument: %s", shown(k, f))
					}
				}
			}
		}
	}
	a, b := New(5), New(5)
	if !apart(append(pieces(reflect.ValueOf(a)), pieces(reflect.ValueOf(b))...)) {
		t.Error("R3: two answers of New share memory")
	}
}

// lies tells whether a text is a part of another one, in its memory.
func lies(part, whole string) bool {
	at, from := uintptr(unsafe.Pointer(unsafe.StringData(part))), uintptr(unsafe.Pointer(unsafe.StringData(whole)))
	return len(part) > 0 && at >= from && at < from+uintptr(len(whole))
}

// R3: no text that is handed in is kept: it may be a part of a greater one.
func TestTexts(t *testing.T) {
	path := "dir/" + rep("n", 9)
	names, _ := Parts(path)
	for _, name := range names {
		if lies(name, path) {
			t.Errorf("R3: Parts keeps the path of %q", name)
		}
	}
	for _, n := range []api.Inode{{Kind: api.KFile, Data: rep("d", 9)}, {Kind: api.KSym, Target: rep("t", 9)}} {
		g := check(t, sample(), call{name: "Make", c: me(), path: path, n: n}, 0)
		made := g.Nodes[aNone]
		if lies(made.Data, n.Data) || lies(made.Target, n.Target) || lies(g.Nodes[aDir].Kids[2].Name, path) {
			t.Error("R3: Make keeps a text")
		}
	}
	g := check(t, sample(), call{name: "Link", c: me(), old: "file", path: path}, 0)
	if lies(g.Nodes[aDir].Kids[2].Name, path) {
		t.Error("R3: Link keeps the path")
	}
	l := attributes(rep("n", 9), rep("v", 9))
	g = check(t, sample(), call{name: "SetXattrs", c: me(), path: "file", xattrs: l}, 0)
	if x := g.Nodes[aFile].Meta.Xattrs[0]; lies(x.Name, l[0].Name) || lies(x.Value, l[0].Value) {
		t.Error("R3: SetXattrs keeps a text")
	}
}

// What is written into an answer, also behind its ends, changes nothing else.
func TestScribble(t *testing.T) {
	d := random(3)
	for range 3000 {
		f := someWorld(d)
		k := someCall(d, f)
		g, e := k.do(f)
		if !apart(pieces(reflect.ValueOf(g))) {
			t.Fatal("R3: lists of the answer share memory:", shown(k, f))
		}
		before, words := twin(f), twin(g)
		scribble(g)
		if !same(f, before) {
			t.Fatal("R3: the answer is the argument:", shown(k, f))
		}
		again, e2 := k.do(f)
		if !same(again, words) || e != e2 {
			t.Fatal("R1: another answer to the same call:", shown(k, f))
		}
		scribble(f)
		if !same(again, words) {
			t.Fatal("R3: the argument is kept:", shown(k, before))
		}
	}
}

// scribble writes into all lists of f.
func scribble(f api.FS) {
	for i := range f.Faults[:cap(f.Faults)] {
		f.Faults[:cap(f.Faults)][i] = 77
	}
	nodes := f.Nodes[:cap(f.Nodes)]
	for i := range nodes {
		n := &nodes[i]
		for _, l := range [][]api.Ace{n.Meta.Acl, n.Meta.Default} {
			for j := range l[:cap(l)] {
				l[:cap(l)][j].Perm = 77
			}
		}
		for j := range n.Meta.Xattrs[:cap(n.Meta.Xattrs)] {
			n.Meta.Xattrs[:cap(n.Meta.Xattrs)][j].Name = "77"
		}
		for j := range n.Kids[:cap(n.Kids)] {
			n.Kids[:cap(n.Kids)][j] = api.Dirent{Name: "77", Ino: 77}
		}
		n.Data, n.Kind = "77", 77
	}
}

func TestTogether(t *testing.T) {
	f := sample()
	var all sync.WaitGroup
	for seed := range 8 {
		all.Go(func() {
			d := random(int64(seed % 2))
			for range 400 {
				k := someCall(d, f)
				g, e := k.do(f)
				if words, want := k.want(f); e != want || !same(g, words) {
					t.Error("R5:", shown(k, f))
				}
			}
		})
	}
	all.Wait()
}

// File systems that are not valid: nothing is promised but that there is an answer.
func TestNoPanic(t *testing.T) {
	d := random(4)
	for range 20000 {
		was := someWorld(d)
		f := twin(was)
		for range 1 + d(5) {
			if len(f.Nodes) > 0 {
				turn(d, &f)
			}
		}
		for range 3 {
			k := someCall(d, was)
			if d(4) == 0 {
				k.c = api.Cred{Uid: d(5) - 2, Gid: -1, Groups: make([]int, 40), Powers: pick(d, -1, 128, 1<<40)}
			}
			g, e := k.do(f)
			if e < 0 || e > api.ErrBusy {
				t.Fatal("error", e)
			}
			May(g)
			Find(f, k.c, k.path)
		}
	}
	for _, f := range []api.FS{{}, {Nodes: make([]api.Inode, 1)}, {Nodes: make([]api.Inode, 200)}, {Op: math.MinInt, Room: math.MinInt}} {
		for _, name := range functions {
			for _, path := range []string{"", "dir", "dir/deep", "dir/new", "/"} {
				k := usual(name)
				k.path = path
				k.do(f)
				Find(f, k.c, path)
			}
		}
	}
	for _, do := range flaws() {
		f := with(do)
		for _, name := range functions {
			for path := range paths {
				k := usual(name)
				k.path = path
				k.do(f)
				Find(f, k.c, path+"/x/x/x")
			}
		}
	}
	// A ring of directories is gone through as far as the path says.
	f := chain([]string{"n"})
	f.Nodes[1].Kids = kids("n", 1)
	if at, e := Find(f, me(), rep("n/", 63)+"n"); at != 1 || e != api.OK {
		t.Error("19.2: Find in a ring:", at, e)
	}
}

// The way of the chapter: an error ends a call by a panic.
func TestWay(t *testing.T) {
	f := sample()
	for path, want := range map[string]api.Errno{"none": api.ErrNone, "file/x": api.ErrKind, "dir/deep": 0} {
		func() {
			defer func() {
				got := recover()
				e, is := got.(failure)
				if is != (want != 0) || api.Errno(e) != want {
					t.Errorf("19, Ways: the way to %s panics with %v", path, got)
				}
			}()
			follow(f, me(), strings.Split(path, "/"))
		}()
	}
	for e := api.OK; e <= api.ErrBusy; e++ {
		func() {
			defer func() {
				if got := recover(); got != failure(e) {
					t.Errorf("19, Ways: the error %d panics with %v", e, got)
				}
			}()
			must(true, e)
			must(false, e)
			t.Errorf("19, Ways: the error %d doesn't panic", e)
		}()
	}
}

// bytesDice takes its numbers from s, and 0 behind its end.
func bytesDice(s string) dice {
	return func(n int) int {
		if s == "" || n < 1 {
			return 0
		}
		c := int(s[0])
		s = s[1:]
		return c % n
	}
}

func FuzzCalls(f *testing.F) {
	f.Add("", "")
	f.Add("\x03\x02\x01\x04\x05\x01\x01", "\x01\x02\x03\x04\x05\x06\x07")
	f.Add(rep("\x01\x02\x03\x05\x07", 40), rep("\x02\x09\x04\x01", 40))
	f.Fuzz(func(t *testing.T, first, then string) {
		g := someWorld(bytesDice(first))
		d := bytesDice(then)
		for range 4 {
			k := someCall(d, g)
			_, e := k.want(g)
			g = check(t, g, k, e)
			mixedFind(t, g, d)
		}
	})
}

func FuzzMay(f *testing.F) {
	f.Add("", "")
	f.Add("\x03\x02\x01\x04\x05\x01\x01", "\x01\x02\x03\x04\x05\x06\x07")
	f.Add(rep("\x01\x02\x03\x05\x07", 40), "\x01\x02\x12\x01\x01\x01\x04")
	f.Fuzz(func(t *testing.T, first, then string) {
		g := someWorld(bytesDice(first))
		d := bytesDice(then)
		for range 1 + d(4) {
			if len(g.Nodes) > 0 {
				turn(d, &g)
			}
		}
		checkMay(t, g, wantMay(g))
	})
}
