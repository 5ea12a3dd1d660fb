package fs

import (
	"math"
	"testing"

	"gripsack/acl"
	"gripsack/api"
)

// list are the parts of an access list: tag, id, perm, tag, id, perm.
func list(n ...int) []api.Ace {
	var l []api.Ace
	for i := 0; i < len(n); i += 3 {
		l = append(l, api.Ace{Tag: n[i], Id: n[i+1], Perm: n[i+2]})
	}
	return l
}

// plainList is a list of three parts, for the mode 0421.
func plainList() []api.Ace { return list(1, 0, 4, 3, 0, 2, 6, 0, 1) }

// fullList has parts of all sorts, for the mode 0651. Its TGroup doesn't count.
func fullList() []api.Ace { return list(1, 0, 6, 2, 3, 7, 3, 0, 2, 4, 8, 3, 5, 0, 5, 6, 0, 1) }

// attributes are names and values: name, value, name, value.
func attributes(l ...string) []api.Xattr {
	var out []api.Xattr
	for i := 0; i < len(l); i += 2 {
		out = append(out, api.Xattr{Name: l[i], Value: l[i+1]})
	}
	return out
}

// greatest are as many attributes as may be, and as long.
func greatest() []api.Xattr {
	var l []api.Xattr
	for i := range 32 {
		l = append(l, api.Xattr{Name: string(rune('A'+i)) + rep("n", 237), Value: rep("v", 4096)})
	}
	return l
}

// everyKind are the paths of one node of each kind.
var everyKind = []string{"dir", "file", "sym", "char", "block", "fifo"}

// Chown of each kind: of a file alone it takes SetUid, SetGid and Caps.
func TestChownKinds(t *testing.T) {
	for _, path := range everyKind {
		at := paths[path]
		f := sample()
		if path != "sym" {
			f.Nodes[at].Meta.Mode = 0o7654
		}
		f.Nodes[at].Meta.Xattrs, f.Nodes[at].Meta.Mtime = attributes("a", "b"), api.Stamp{Sec: 5}
		becomes(t, f, call{name: "Chown", c: all(), path: path, uid: 6, gid: 60}, at, func(n *api.Inode) {
			n.Meta.Uid, n.Meta.Gid = 6, 60
			if path == "file" {
				n.Meta.Mode = 0o1654
			}
		})
	}
	f := with(moded(aFile, 0o6755))
	f.Nodes[aFile].Meta.Caps = api.Caps{Ver: 3, Permitted: 1, Inheritable: 2, Effective: true, Root: 4}
	f.Nodes[aFile].Meta.Acl = acl.From(0o755)
	// So it does where nothing else changes, and by the other name.
	for _, k := range []call{{c: me(), path: "file"}, {c: all(), path: "dir/link"}, {c: who(5, 1, 0, 50), path: "file"}} {
		k.name, k.uid, k.gid = "Chown", 5, 50
		becomes(t, f, k, aFile, func(n *api.Inode) { n.Meta.Mode, n.Meta.Caps = 0o755, api.Caps{} })
	}
	for _, mode := range []int{0o4000, 0o2000, 0o1000, 0o7777, 0o777} {
		f.Nodes[aDeep].Meta.Mode = mode
		becomes(t, f, call{name: "Chown", c: all(), path: "dir/deep", uid: 5, gid: 50}, aDeep, func(n *api.Inode) { n.Meta.Mode = mode % 1024 })
	}
	becomes(t, f, call{name: "Chown", c: all(), path: "", uid: math.MaxInt32, gid: 0}, aRoot, func(n *api.Inode) { n.Meta.Uid, n.Meta.Gid = math.MaxInt32, 0 })
}

func TestChownWho(t *testing.T) {
	grouped := who(5, 50, 0, 51, 52)
	for i, c := range []struct {
		c        api.Cred
		uid, gid int
		e        api.Errno
	}{
		{grouped, 5, 50, 0}, {grouped, 5, 51, 0}, {grouped, 5, 52, 0}, {grouped, 5, 53, 7}, {grouped, 5, 0, 7}, {grouped, 5, 5, 7},
		{grouped, 6, 50, 7}, {grouped, 0, 50, 7}, {grouped, 6, 51, 7},
		{who(5, 99, 0), 5, 99, 0}, {who(5, 99, 0), 5, 50, 7}, // the group of the node is not one of his
		{who(6, 50, 0), 6, 50, 7}, {who(6, 50, 0), 5, 50, 7}, {who(6, 50, 0, 5), 5, 50, 7},
		{who(9, 9, 1), 6, 60, 0}, {who(9, 9, 1), 5, 50, 0}, {who(9, 9, 1), 9, 9, 0}, {who(9, 9, 1), 0, 0, 0},
		{who(9, 9, 126), 9, 9, 7}, {who(9, 9, 126), 5, 50, 7}, {who(5, 50, 126), 6, 50, 7}, {who(5, 50, 126), 5, 51, 7}, {who(5, 50, 126), 5, 50, 0},
		{all(), math.MaxInt32, math.MaxInt32, 0},
	} {
		k := call{name: "Chown", c: c.c, path: "file", uid: c.uid, gid: c.gid}
		if c.e != 0 {
			stays(t, sample(), k, c.e)
		} else {
			becomes(t, sample(), k, aFile, func(n *api.Inode) { n.Meta.Uid, n.Meta.Gid = c.uid, c.gid })
		}
		if t.Failed() {
			t.Fatal("case", i)
		}
	}
	for _, id := range []int{-1, -5, 1 << 31, 1<<32 + 5, math.MaxInt, math.MinInt} {
		stays(t, sample(), call{name: "Chown", c: all(), path: "file", uid: id, gid: 50}, api.ErrArg)
		stays(t, sample(), call{name: "Chown", c: all(), path: "file", uid: 5, gid: id}, api.ErrArg)
	}
}

func TestChmodKinds(t *testing.T) {
	for _, path := range append(everyKind, "", "dir/deep", "dir/link", "dir/sub") {
		for _, mode := range []int{0, 0o7777, 0o777, 0o1000, 0o2000, 0o4000, 0o421, 511} {
			k := call{name: "Chmod", c: me(), path: path, mode: mode}
			if path == "sym" {
				stays(t, sample(), k, api.ErrKind)
				continue
			}
			becomes(t, sample(), k, paths[path], func(n *api.Inode) { n.Meta.Mode = mode })
		}
		for _, mode := range []int{-1, 4096, 1 << 16, math.MaxInt, math.MinInt, -4096} {
			stays(t, sample(), call{name: "Chmod", c: all(), path: path, mode: mode}, api.ErrArg)
		}
	}
}

// SetGid goes from a file of a group that c is not in, unless c has POwner.
func TestChmodSetGid(t *testing.T) {
	for _, c := range []struct {
		c    api.Cred
		goes bool
	}{
		{who(5, 50, 0), false}, {who(5, 1, 0, 2, 50), false}, {who(5, 1, 0), true}, {who(5, 1, 0, 2, 5), true}, {who(5, 0, 0), true},
		{who(5, 1, 4), false}, {who(5, 1, 127-4), true}, {who(9, 9, 4), false}, {who(9, 50, 4), false},
	} {
		for _, path := range []string{"file", "dir", "fifo", "char", "block"} {
			for _, mode := range []int{0o2755, 0o7777, 0o2000, 0o6010} {
				becomes(t, sample(), call{name: "Chmod", c: c.c, path: path, mode: mode}, paths[path], func(n *api.Inode) {
					n.Meta.Mode = mode
					if c.goes && path == "file" {
						n.Meta.Mode = mode - 1024
					}
				})
			}
			// What was there before takes no part in it.
			f := with(moded(paths[path], 0o7777))
			becomes(t, f, call{name: "Chmod", c: c.c, path: path, mode: 0o5701}, paths[path], func(n *api.Inode) { n.Meta.Mode = 0o5701 })
		}
	}
}

// Chmod of a node with a list sets the rights in it, too.
func TestChmodAcl(t *testing.T) {
	for _, c := range []struct {
		l, want []api.Ace
		mode    int
	}{
		{plainList(), list(1, 0, 7, 3, 0, 5, 6, 0, 2), 0o752},
		{plainList(), list(1, 0, 0, 3, 0, 0, 6, 0, 0), 0o7000},
		{plainList(), list(1, 0, 7, 3, 0, 7, 6, 0, 7), 0o1777},
		{fullList(), list(1, 0, 7, 2, 3, 7, 3, 0, 2, 4, 8, 3, 5, 0, 4, 6, 0, 3), 0o743},
		{fullList(), list(1, 0, 0, 2, 3, 7, 3, 0, 2, 4, 8, 3, 5, 0, 0, 6, 0, 0), 0o4000},
		{list(1, 0, 6, 2, 3, 6, 2, 4, 1, 3, 0, 6, 5, 0, 6, 6, 0, 6), list(1, 0, 1, 2, 3, 6, 2, 4, 1, 3, 0, 6, 5, 0, 2, 6, 0, 3), 0o123},
		{list(1, 0, 6, 3, 0, 6, 4, 3, 6, 5, 0, 6, 6, 0, 6), list(1, 0, 1, 3, 0, 6, 4, 3, 6, 5, 0, 2, 6, 0, 3), 0o123},
	} {
		for _, path := range []string{"file", "dir", "fifo", "char", ""} {
			at := paths[path]
			f := sample()
			f.Nodes[at].Meta.Acl, f.Nodes[at].Meta.Mode = c.l, acl.Mode(c.l)
			if at == aDir {
				f.Nodes[at].Meta.Default = plainList()
			}
			becomes(t, f, call{name: "Chmod", c: who(9, 9, 6), path: path, mode: c.mode}, at, func(n *api.Inode) {
				n.Meta.Mode, n.Meta.Acl = c.mode, c.want
			})
		}
	}
	// The rights of a file whose SetGid goes are set all the same.
	f := with(moded(aFile, 0o651))
	f.Nodes[aFile].Meta.Acl = fullList()
	becomes(t, f, call{name: "Chmod", c: who(5, 1, 0), path: "file", mode: 0o2770}, aFile, func(n *api.Inode) {
		n.Meta.Mode, n.Meta.Acl = 0o770, list(1, 0, 7, 2, 3, 7, 3, 0, 2, 4, 8, 3, 5, 0, 7, 6, 0, 0)
	})
}

func TestSetAcl(t *testing.T) {
	for _, path := range append(everyKind, "") {
		at := paths[path]
		for _, old := range [][]api.Ace{nil, plainList(), fullList()} {
			f := with(moded(at, 0o7777))
			if path == "sym" {
				f = sample()
			} else if old != nil {
				f.Nodes[at].Meta.Acl, f.Nodes[at].Meta.Mode = old, 0o5000+acl.Mode(old)
			}
			if at == aDir {
				f.Nodes[at].Meta.Default = old
			}
			for _, c := range []struct{ l, def []api.Ace }{{nil, nil}, {plainList(), nil}, {fullList(), nil}, {nil, plainList()}, {plainList(), fullList()}, {fullList(), fullList()}, {[]api.Ace{}, []api.Ace{}}} {
				k := call{name: "SetAcl", c: me(), path: path, acl: c.l, def: c.def}
				if path == "sym" || len(c.def) > 0 && path != "dir" && path != "" {
					stays(t, f, k, api.ErrKind)
					continue
				}
				becomes(t, f, k, at, func(n *api.Inode) {
					n.Meta.Acl, n.Meta.Default = c.l, c.def
					if len(c.l) > 0 {
						n.Meta.Mode = n.Meta.Mode/512*512 + acl.Mode(c.l)
					}
				})
			}
		}
	}
	// An empty list takes the old one, and the Mode keeps what that said.
	f := with(moded(aFile, 0o4651))
	f.Nodes[aFile].Meta.Acl = fullList()
	becomes(t, f, call{name: "SetAcl", c: me(), path: "file"}, aFile, func(n *api.Inode) { n.Meta.Acl = nil })
	becomes(t, f, call{name: "SetAcl", c: me(), path: "file", acl: plainList()}, aFile, func(n *api.Inode) {
		n.Meta.Acl, n.Meta.Mode = plainList(), 0o4421
	})
}

func TestSetAclWrong(t *testing.T) {
	long := list(1, 0, 7)
	for id := range 29 {
		long = append(long, list(2, id, 7)...)
	}
	long = append(long, list(3, 0, 7, 5, 0, 7, 6, 0, 7)...)
	for _, l := range [][]api.Ace{
		plainList()[:2], plainList()[1:], long, list(1, 0, 8, 3, 0, 0, 6, 0, 0), list(1, 0, -1, 3, 0, 0, 6, 0, 0),
		list(3, 0, 7, 1, 0, 7, 6, 0, 7), list(1, 0, 7, 2, 5, 7, 3, 0, 7, 6, 0, 7), list(1, 0, 7, 3, 0, 7, 5, 0, 7, 6, 0, 7),
		list(1, 0, 7, 2, 5, 7, 2, 5, 7, 3, 0, 7, 5, 0, 7, 6, 0, 7), list(1, 5, 7, 3, 0, 7, 6, 0, 7), list(0, 0, 0), make([]api.Ace, 3),
	} {
		for _, path := range append(everyKind, "", "none", "dir/deep/x") {
			stays(t, sample(), call{name: "SetAcl", c: all(), path: path, acl: l}, api.ErrArg)
			stays(t, sample(), call{name: "SetAcl", c: all(), path: path, acl: plainList(), def: l}, api.ErrArg)
			stays(t, sample(), call{name: "SetAcl", c: all(), path: path, acl: l, def: plainList()}, api.ErrArg)
		}
	}
	// The longest list.
	long = append(long[:29], long[30:]...)
	becomes(t, sample(), call{name: "SetAcl", c: me(), path: "dir", acl: long, def: long}, aDir, func(n *api.Inode) {
		n.Meta.Acl, n.Meta.Default, n.Meta.Mode = long, long, 0o777
	})
}

func TestSetXattrsKinds(t *testing.T) {
	for _, path := range append(everyKind, "", "dir/deep") {
		for _, l := range [][]api.Xattr{nil, {}, attributes("a", ""), attributes("a", "1", "user.b", "2"), attributes("trusted", "1", "trustedx", "2"), greatest()} {
			f := sample()
			f.Nodes[paths[path]].Meta.Xattrs = attributes("b", "3", "user.b", "4")
			becomes(t, f, call{name: "SetXattrs", c: me(), path: path, xattrs: l}, paths[path], func(n *api.Inode) { n.Meta.Xattrs = l })
		}
		for _, l := range [][]api.Xattr{attributes("", ""), attributes("b", "", "a", ""), attributes("a", "", "a", ""), attributes("a\x00", ""), attributes("a", rep("v", 4097)), attributes(rep("n", 239), ""), append(greatest(), attributes("z", "")...)} {
			stays(t, sample(), call{name: "SetXattrs", c: all(), path: path, xattrs: l}, api.ErrArg)
		}
	}
}

// Who isn't the owner must have W.
func TestSetXattrsWrite(t *testing.T) {
	for _, c := range []struct {
		mode int
		c    api.Cred
		e    api.Errno
	}{
		{0o644, who(9, 9, 0), 7}, {0o646, who(9, 9, 0), 0}, {0o642, who(9, 9, 0), 0}, {0o645, who(9, 9, 0), 7}, {0o664, who(9, 9, 0), 7}, {0o664, who(9, 50, 0), 0}, {0o624, who(9, 1, 0, 50), 0}, {0o646, who(9, 50, 0), 7},
		{0o444, me(), 0}, {0, me(), 0}, {0o066, me(), 0}, {0, who(9, 9, 4), 0}, {0, who(9, 9, 2), 0}, {0o755, who(9, 9, 127-6), 7},
	} {
		k := call{name: "SetXattrs", c: c.c, path: "file", xattrs: attributes("a", "b")}
		f := with(moded(aFile, c.mode))
		if c.e != 0 {
			stays(t, f, k, c.e)
		} else {
			becomes(t, f, k, aFile, func(n *api.Inode) { n.Meta.Xattrs = k.xattrs })
		}
	}
	// A link's Mode lets everybody write.
	becomes(t, sample(), call{name: "SetXattrs", c: who(9, 9, 0), path: "sym", xattrs: attributes("a", "b")}, aSym, func(n *api.Inode) {
		n.Meta.Xattrs = attributes("a", "b")
	})
	// A list decides where there is one.
	f := with(moded(aFile, 0o666))
	f.Nodes[aFile].Meta.Acl = list(1, 0, 6, 2, 9, 4, 3, 0, 6, 5, 0, 6, 6, 0, 6)
	stays(t, f, call{name: "SetXattrs", c: who(9, 9, 0), path: "file"}, api.ErrDenied)
	check(t, f, call{name: "SetXattrs", c: who(8, 9, 0), path: "file"}, api.OK)
}

// Attributes that begin with `trusted.` or `security.` need PXattrs to change.
func TestSetXattrsSpecial(t *testing.T) {
	old := attributes("a", "1", "security.s", "2", "trusted.t", "3", "user.u", "4")
	for _, c := range []struct {
		l     []api.Xattr
		needs bool
	}{
		{old, false},
		{attributes("security.s", "2", "trusted.t", "3"), false},                                                  // others go
		{attributes("a", "9", "b", "8", "security.s", "2", "trusted.t", "3", "trustedx", "", "zz", ""), false},    // others change and come
		{attributes("!", "", "security", "", "security.s", "2", "trusted", "", "trusted.t", "3", "u", ""), false}, // these begin with less
		{attributes("Trusted.x", "", "security.s", "2", "trusted.t", "3", "x.trusted.y", ""), false},              // or in another way
		{attributes("security.s", "2"), true},                                                                     // one goes
		{attributes("trusted.t", "3"), true},                                                                      // the other goes
		{attributes("a", "1", "user.u", "4"), true},                                                               // both go
		{nil, true}, //
		{attributes("security.s", "2", "trusted.t", "4"), true},                                                     // one changes
		{attributes("security.s", "", "trusted.t", "3"), true},                                                      //
		{attributes("security.s", "3", "trusted.t", "2"), true},                                                     // both change
		{attributes("security.", "", "security.s", "2", "trusted.t", "3"), true},                                    // one comes
		{attributes("security.s", "2", "trusted.", "", "trusted.t", "3"), true},                                     //
		{attributes("a", "1", "security.s", "2", "trusted.t", "3", "trusted.u", "4"), true},                         //
		{attributes("security.s", "2", "trusted.T", "3"), true},                                                     // one has another name
		{attributes("security.s.", "2", "trusted.t", "3"), true},                                                    //
		{attributes("security.s", "2", "security.t", "3"), true},                                                    //
		{attributes("a", "1", "security.s", "2", "trusted.t", "3\x00", "user.u", "4"), true},                        //
		{attributes("security.s", "2", "security.sx", "3", "security.sy", "3", "trusted.t", "3", "user", ""), true}, //
	} {
		for _, w := range []api.Cred{me(), who(5, 50, 127-64), who(9, 9, 2), who(9, 9, 4)} {
			f := sample()
			f.Nodes[aFile].Meta.Xattrs = old
			k := call{name: "SetXattrs", c: w, path: "file", xattrs: c.l}
			if c.needs {
				stays(t, f, k, api.ErrDenied)
			} else {
				becomes(t, f, k, aFile, func(n *api.Inode) { n.Meta.Xattrs = c.l })
			}
			k.c.Powers |= 64
			becomes(t, f, k, aFile, func(n *api.Inode) { n.Meta.Xattrs = c.l })
			// The power alone doesn't make an owner of him.
			k.c = who(9, 9, 64)
			stays(t, f, k, api.ErrDenied)
		}
	}
	// The first special one, and the last one.
	stays(t, sample(), call{name: "SetXattrs", c: me(), path: "dir", xattrs: attributes("trusted.", "")}, api.ErrDenied)
	stays(t, sample(), call{name: "SetXattrs", c: me(), path: "sym", xattrs: attributes("security.x", "")}, api.ErrDenied)
	becomes(t, sample(), call{name: "SetXattrs", c: me(), path: "sym", xattrs: attributes("securit.x", "", "securityx", "")}, aSym, func(n *api.Inode) {
		n.Meta.Xattrs = attributes("securit.x", "", "securityx", "")
	})
}

func TestSetCaps(t *testing.T) {
	some := []api.Caps{{}, {Ver: 2}, {Ver: 2, Permitted: 3, Effective: true}, {Ver: 3, Inheritable: math.MaxUint64, Root: math.MaxInt32}}
	for _, path := range append(everyKind, "", "dir/deep", "dir/link") {
		for _, x := range some {
			for _, old := range some {
				f := sample()
				k := call{name: "SetCaps", c: who(9, 9, 8), path: path, caps: x}
				if f.Nodes[paths[path]].Kind != api.KFile {
					stays(t, f, k, api.ErrKind)
					continue
				}
				f.Nodes[paths[path]].Meta.Caps = old
				becomes(t, f, k, paths[path], func(n *api.Inode) { n.Meta.Caps = x })
				// The owner alone may not, even if nothing changes.
				k.c = who(5, 50, 127-8)
				stays(t, f, k, api.ErrDenied)
			}
		}
		for _, x := range []api.Caps{{Permitted: 1}, {Effective: true}, {Ver: 1}, {Ver: 2, Root: 1}, {Ver: 3, Root: -1}, {Ver: 3, Root: 1 << 31}, {Ver: 4}, {Ver: -2}} {
			stays(t, sample(), call{name: "SetCaps", c: all(), path: path, caps: x}, api.ErrArg)
		}
	}
}

func TestSetTime(t *testing.T) {
	for _, path := range append(everyKind, "", "dir/deep", "dir/link") {
		for _, at := range []api.Stamp{{}, {Sec: 1 << 40, Nano: 999999999}, {Sec: -1 << 40}, {Sec: 5, Nano: 7}} {
			f := sample()
			f.Nodes[paths[path]].Meta.Mtime = api.Stamp{Sec: 9, Nano: 9}
			becomes(t, f, call{name: "SetTime", c: me(), path: path, t: at}, paths[path], func(n *api.Inode) { n.Meta.Mtime = at })
		}
		for _, at := range []api.Stamp{{Nano: -1}, {Nano: 1000000000}, {Sec: 1<<40 + 1}, {Sec: -1<<40 - 1}, {Sec: math.MinInt}} {
			stays(t, sample(), call{name: "SetTime", c: all(), path: path, t: at}, api.ErrArg)
		}
	}
}

func TestSetFlags(t *testing.T) {
	for _, path := range append(everyKind, "", "dir/deep", "dir/link") {
		for n := range 16 {
			for old := range 16 {
				k := call{name: "SetFlags", c: who(5, 50, 32), path: path, flags: n}
				if path == "sym" {
					stays(t, sample(), k, api.ErrKind)
					continue
				}
				f := with(flagged(paths[path], old))
				becomes(t, f, k, paths[path], func(node *api.Inode) { node.Meta.Flags = n })
				k.c.Powers = 127 - 32
				if n%4 != old%4 {
					stays(t, f, k, api.ErrDenied)
				} else {
					becomes(t, f, k, paths[path], func(node *api.Inode) { node.Meta.Flags = n })
				}
				// The power alone doesn't make an owner of him.
				k.c = who(9, 9, 127-4)
				stays(t, f, k, api.ErrDenied)
			}
		}
		for _, n := range []int{-1, 16, 17, 1 << 32, math.MaxInt, math.MinInt} {
			stays(t, sample(), call{name: "SetFlags", c: all(), path: path, flags: n}, api.ErrArg)
		}
	}
}
