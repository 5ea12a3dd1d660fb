package fs

import (
	"fmt"
	"maps"
	"reflect"
	"slices"
	"strings"

	"gripsack/acl"
	"gripsack/api"
	"gripsack/caps"
	"gripsack/flags"
	"gripsack/meta"
	"gripsack/right"
	"gripsack/stamp"
	"gripsack/xattr"
)

// call is a call of one of the functions from Make on: its name, and what it is
// given. No function takes all of it.
type call struct {
	name      string
	c         api.Cred
	path, old string
	n         api.Inode
	uid, gid  int
	mode      int
	acl, def  []api.Ace
	xattrs    []api.Xattr
	caps      api.Caps
	t         api.Stamp
	flags     int
}

// functions are the names of those that a call may have.
var functions = []string{"Make", "Link", "Remove", "Chown", "Chmod", "SetAcl", "SetXattrs", "SetCaps", "SetTime", "SetFlags"}

func (k call) do(f api.FS) (api.FS, api.Errno) {
	switch k.name {
	case "Make":
		return Make(f, k.c, k.path, k.n)
	case "Link":
		return Link(f, k.c, k.old, k.path)
	case "Remove":
		return Remove(f, k.c, k.path)
	case "Chown":
		return Chown(f, k.c, k.path, k.uid, k.gid)
	case "Chmod":
		return Chmod(f, k.c, k.path, k.mode)
	case "SetAcl":
		return SetAcl(f, k.c, k.path, k.acl, k.def)
	case "SetXattrs":
		return SetXattrs(f, k.c, k.path, k.xattrs)
	case "SetCaps":
		return SetCaps(f, k.c, k.path, k.caps)
	case "SetTime":
		return SetTime(f, k.c, k.path, k.t)
	case "SetFlags":
		return SetFlags(f, k.c, k.path, k.flags)
	}
	panic("no function " + k.name)
}

// want is what the call answers, by the words of the chapter.
func (k call) want(f api.FS) (api.FS, api.Errno) {
	w := worldOf(f)
	if k.wrong() {
		return w.fs(), api.ErrArg
	}
	e := api.ErrFault
	if !slices.Contains(f.Faults, f.Op+1) {
		e = w.apply(k)
	}
	if e != api.OK {
		w = worldOf(f)
	}
	w.op++
	return w.fs(), e
}

// wrong tells whether the call is ErrArg.
func (k call) wrong() bool {
	if k.path != "" && !wantPath(k.path) {
		return true
	}
	switch k.name {
	case "Make":
		return k.path == "" || k.n.Meta.Mode < 0 || k.n.Meta.Mode > 4095 || !wantContent(k.n)
	case "Link":
		return k.path == "" || k.old != "" && !wantPath(k.old)
	case "Remove":
		return k.path == ""
	case "Chown":
		return k.uid < 0 || k.uid > 2147483647 || k.gid < 0 || k.gid > 2147483647
	case "Chmod":
		return k.mode < 0 || k.mode > 4095
	case "SetAcl":
		return len(k.acl) > 0 && !acl.May(k.acl) || len(k.def) > 0 && !acl.May(k.def)
	case "SetXattrs":
		return !xattr.May(k.xattrs)
	case "SetCaps":
		return !caps.May(k.caps)
	case "SetTime":
		return !stamp.May(k.t)
	}
	return !flags.May(k.flags)
}

// world is a file system whose names are whole paths.
type world struct {
	nodes    []api.Inode // without Kids
	paths    map[string]int
	room, op int
	faults   []int
}

func worldOf(f api.FS) *world {
	w := &world{paths: map[string]int{"": 0}, room: f.Room, op: f.Op, faults: slices.Clone(f.Faults)}
	var enter func(dir int, prefix string)
	enter = func(dir int, prefix string) {
		for _, d := range f.Nodes[dir].Kids {
			w.paths[prefix+d.Name] = d.Ino
			enter(d.Ino, prefix+d.Name+"/")
		}
	}
	enter(0, "")
	for _, n := range f.Nodes {
		n = twinNode(n)
		n.Kids = nil
		w.nodes = append(w.nodes, n)
	}
	return w
}

// fs makes a file system of w again.
func (w *world) fs() api.FS {
	f := api.FS{Room: w.room, Op: w.op, Faults: w.faults}
	for _, n := range w.nodes {
		f.Nodes = append(f.Nodes, twinNode(n))
	}
	for _, path := range slices.Sorted(maps.Keys(w.paths)) {
		if path != "" {
			dir, name := above(path)
			in := &f.Nodes[w.paths[dir]]
			in.Kids = append(in.Kids, api.Dirent{Name: name, Ino: w.paths[path]})
		}
	}
	return f
}

// above returns the path without its last name, and that name.
func above(path string) (string, string) {
	i := strings.LastIndex(path, "/")
	return path[:max(i, 0)], path[i+1:]
}

func (w *world) find(c api.Cred, path string) (int, api.Errno) {
	for i := 0; i <= len(path); i++ {
		if path == "" || i < len(path) && path[i] != '/' {
			continue
		}
		// The name that ends here is looked up in the directory above it.
		dir, _ := above(path[:i])
		n := w.nodes[w.paths[dir]]
		if n.Kind != api.KDir {
			return 0, api.ErrKind
		}
		if !right.Can(n.Meta, c, 1) {
			return 0, api.ErrDenied
		}
		if _, is := w.paths[path[:i]]; !is {
			return 0, api.ErrNone
		}
	}
	return w.paths[path], api.OK
}

func power(c api.Cred, bit int) bool { return c.Powers>>bit&1 == 1 }

func writes(n api.Inode, c api.Cred) bool {
	return right.Can(n.Meta, c, 3) && n.Meta.Flags%2 == 0
}

func closed(n api.Inode) bool { return n.Meta.Flags%4 != 0 }

func (w *world) apply(k call) api.Errno {
	switch k.name {
	case "Make":
		return w.make(k)
	case "Link":
		return w.link(k)
	case "Remove":
		return w.remove(k)
	}
	at, e := w.find(k.c, k.path)
	if e != api.OK {
		return e
	}
	n := &w.nodes[at]
	if e := wantSet(k, *n); e != api.OK {
		return e
	}
	set(k, n)
	return api.OK
}

func (w *world) make(k call) api.Errno {
	above, _ := above(k.path)
	dir, e := w.find(k.c, above)
	if e != api.OK {
		return e
	}
	at, used := -1, 0
	for i, n := range w.nodes {
		if n.Kind != 0 {
			used++
		} else if at < 0 {
			at = i
		}
	}
	_, there := w.paths[k.path]
	for _, r := range []struct {
		holds bool
		e     api.Errno
	}{
		{w.nodes[dir].Kind != api.KDir, api.ErrKind},
		{!writes(w.nodes[dir], k.c), api.ErrDenied},
		{there, api.ErrHave},
		{(k.n.Kind == api.KChar || k.n.Kind == api.KBlock) && !power(k.c, 4), api.ErrDenied},
		{used == 64 || len(k.n.Data) > w.room, api.ErrFull},
	} {
		if r.holds {
			return r.e
		}
	}
	if at < 0 {
		at = len(w.nodes)
		w.nodes = append(w.nodes, api.Inode{})
	}
	n := api.Inode{Kind: k.n.Kind, Data: k.n.Data, Target: k.n.Target, Major: k.n.Major, Minor: k.n.Minor}
	n.Meta.Mode, n.Meta.Uid, n.Meta.Gid = k.n.Meta.Mode, k.c.Uid, k.c.Gid
	if n.Kind == api.KSym {
		n.Meta.Mode = 511
	}
	w.nodes[at], w.paths[k.path] = n, at
	w.room -= len(n.Data)
	return api.OK
}

func (w *world) link(k call) api.Errno {
	at, e := w.find(k.c, k.old)
	if e != api.OK {
		return e
	}
	above, _ := above(k.path)
	dir, e := w.find(k.c, above)
	if e != api.OK {
		return e
	}
	if w.nodes[at].Kind == api.KDir || w.nodes[dir].Kind != api.KDir {
		return api.ErrKind
	}
	if !writes(w.nodes[dir], k.c) || closed(w.nodes[at]) {
		return api.ErrDenied
	}
	if _, there := w.paths[k.path]; there {
		return api.ErrHave
	}
	w.paths[k.path] = at
	return api.OK
}

func (w *world) remove(k call) api.Errno {
	above, _ := above(k.path)
	dir, e := w.find(k.c, above)
	if e != api.OK {
		return e
	}
	at, e := w.find(k.c, k.path)
	if e != api.OK {
		return e
	}
	p, n := w.nodes[dir], w.nodes[at]
	mine := power(k.c, 2) || p.Meta.Uid == k.c.Uid || n.Meta.Uid == k.c.Uid
	if !writes(p, k.c) || p.Meta.Mode>>9&1 == 1 && !mine || closed(n) {
		return api.ErrDenied
	}
	for path := range w.paths {
		if strings.HasPrefix(path, k.path+"/") {
			return api.ErrBusy
		}
	}
	delete(w.paths, k.path)
	if !slices.Contains(slices.Collect(maps.Values(w.paths)), at) {
		w.nodes[at] = api.Inode{}
	}
	return api.OK
}

// special are the attributes that need a power, by their names.
func special(l []api.Xattr) map[string]string {
	found := map[string]string{}
	for _, x := range l {
		if strings.HasPrefix(x.Name, "trusted.") || strings.HasPrefix(x.Name, "security.") {
			found[x.Name] = x.Value
		}
	}
	return found
}

// wantSet is the error of a call that sets something of n.
func wantSet(k call, n api.Inode) api.Errno {
	owner := n.Meta.Uid == k.c.Uid || power(k.c, 2)
	kind, denied := false, closed(n) || !owner
	switch k.name {
	case "Chown":
		same := k.c.Uid == n.Meta.Uid && n.Meta.Uid == k.uid && (k.gid == k.c.Gid || slices.Contains(k.c.Groups, k.gid))
		denied = closed(n) || !power(k.c, 0) && !same
	case "Chmod":
		kind = n.Kind == api.KSym
	case "SetAcl":
		kind = n.Kind == api.KSym || len(k.def) > 0 && n.Kind != api.KDir
	case "SetXattrs":
		denied = closed(n) || !owner && !right.Can(n.Meta, k.c, 2) ||
			!power(k.c, 6) && !maps.Equal(special(k.xattrs), special(n.Meta.Xattrs))
	case "SetCaps":
		kind, denied = n.Kind != api.KFile, closed(n) || !power(k.c, 3)
	case "SetFlags":
		kind, denied = n.Kind == api.KSym, !owner || k.flags%4 != n.Meta.Flags%4 && !power(k.c, 5)
	}
	if kind {
		return api.ErrKind
	}
	if denied {
		return api.ErrDenied
	}
	return api.OK
}

// set does what a call without an error does to n.
func set(k call, n *api.Inode) {
	m := &n.Meta
	switch k.name {
	case "Chown":
		m.Uid, m.Gid = k.uid, k.gid
		if n.Kind == api.KFile {
			m.Mode, m.Caps = m.Mode%1024, api.Caps{}
		}
	case "Chmod":
		m.Mode = k.mode
		if n.Kind == api.KFile && !power(k.c, 2) && m.Gid != k.c.Gid && !slices.Contains(k.c.Groups, m.Gid) && m.Mode>>10&1 == 1 {
			m.Mode -= 1024
		}
		digit := map[int]int{api.TOwner: 64, api.TGroup: 8, api.TOther: 1}
		for _, a := range m.Acl {
			if a.Tag == api.TMask {
				delete(digit, api.TGroup)
				digit[api.TMask] = 8
			}
		}
		for i, a := range m.Acl {
			if d := digit[a.Tag]; d > 0 {
				m.Acl[i].Perm = k.mode / d % 8
			}
		}
	case "SetAcl":
		m.Acl, m.Default = slices.Clone(k.acl), slices.Clone(k.def)
		if len(k.acl) > 0 {
			m.Mode = m.Mode/512*512 + acl.Mode(k.acl)
		}
	case "SetXattrs":
		m.Xattrs = slices.Clone(k.xattrs)
	case "SetCaps":
		m.Caps = k.caps
	case "SetTime":
		m.Mtime = k.t
	case "SetFlags":
		m.Flags = k.flags
	}
}

func wantName(s string) bool {
	return s != "" && len(s) <= 255 && !strings.ContainsAny(s, "\x00/") && s != "." && s != ".."
}

func wantPath(s string) bool {
	names := strings.Split(s, "/")
	for _, name := range names {
		if !wantName(name) {
			return false
		}
	}
	return len(s) <= 4096 && len(names) <= 64
}

// wantContent tells whether n has the Data, Target, Major and Minor of a node of
// its kind, by the words of 15.1.
func wantContent(n api.Inode) bool {
	target := n.Target == ""
	if n.Kind == api.KSym {
		target = n.Target != "" && len(n.Target) <= 4096 && !strings.Contains(n.Target, "\x00")
	}
	data := n.Data == "" || n.Kind == api.KFile && len(n.Data) <= 65536
	most := 0
	if n.Kind == api.KChar || n.Kind == api.KBlock {
		most = 2097151
	}
	numbers := n.Major >= 0 && n.Major <= most && n.Minor >= 0 && n.Minor <= most
	return slices.Contains([]int{1, 3, 4, 5, 6, 7}, n.Kind) && target && data && numbers
}

// up is a name that leads to a node, and where it is.
type up struct {
	dir  int
	name string
}

// wantUps returns the names that lead to each node, and whether each node, and
// each name by itself, may be.
func wantUps(f api.FS) (map[int][]up, bool) {
	ups := map[int][]up{}
	for dir, n := range f.Nodes {
		if n.Kind == 0 && !sameNode(n, api.Inode{}) {
			return nil, false
		}
		if n.Kind != 0 && (!meta.May(n.Meta, n.Kind) || !wantContent(n)) || n.Kind != api.KDir && len(n.Kids) > 0 {
			return nil, false
		}
		for i, d := range n.Kids {
			if i > 0 && n.Kids[i-1].Name >= d.Name || !wantName(d.Name) {
				return nil, false
			}
			if d.Ino <= 0 || d.Ino >= len(f.Nodes) || f.Nodes[d.Ino].Kind == 0 {
				return nil, false
			}
			ups[d.Ino] = append(ups[d.Ino], up{dir, d.Name})
		}
	}
	return ups, true
}

// wantMay is what May answers, by the words of the chapter. The paths are
// followed upwards.
func wantMay(f api.FS) bool {
	if len(f.Nodes) < 1 || len(f.Nodes) > 64 || f.Nodes[0].Kind != api.KDir || f.Room < 0 || f.Op < 0 {
		return false
	}
	ups, ok := wantUps(f)
	if !ok {
		return false
	}
	for i, n := range f.Nodes {
		if i > 0 && n.Kind != 0 && (len(ups[i]) == 0 || n.Kind == api.KDir && len(ups[i]) > 1) {
			return false
		}
		for _, u := range ups[i] {
			path := u.name
			for at := u.dir; at != 0; at = ups[at][0].dir {
				if len(ups[at]) != 1 || len(path) > 4096 {
					return false
				}
				path = ups[at][0].name + "/" + path
			}
			if !wantPath(path) {
				return false
			}
		}
	}
	return true
}

// twinNode returns n in memory of its own.
func twinNode(n api.Inode) api.Inode {
	n.Kids = append([]api.Dirent(nil), n.Kids...)
	n.Meta.Acl = append([]api.Ace(nil), n.Meta.Acl...)
	n.Meta.Default = append([]api.Ace(nil), n.Meta.Default...)
	n.Meta.Xattrs = append([]api.Xattr(nil), n.Meta.Xattrs...)
	return n
}

// twin returns f in memory of its own.
func twin(f api.FS) api.FS {
	f.Faults = append([]int(nil), f.Faults...)
	f.Nodes = append([]api.Inode(nil), f.Nodes...)
	for i, n := range f.Nodes {
		f.Nodes[i] = twinNode(n)
	}
	return f
}

// sameNode tells whether two nodes are equal; twins have nil for each empty list.
func sameNode(a, b api.Inode) bool {
	return reflect.DeepEqual(twinNode(a), twinNode(b))
}

func same(a, b api.FS) bool {
	return reflect.DeepEqual(twin(a), twin(b))
}

// shown tells the call and the file system in short.
func shown(k call, f api.FS) string {
	s := fmt.Sprintf("%s of %.80q by %d/%d%d, powers %d", k.name, k.path, k.c.Uid, k.c.Gid, k.c.Groups, k.c.Powers)
	switch k.name {
	case "Make":
		s += fmt.Sprintf(", kind %d, mode %o, %d bytes", k.n.Kind, k.n.Meta.Mode, len(k.n.Data))
	case "Link":
		s += fmt.Sprintf(", old %.80q", k.old)
	case "Chown":
		s += fmt.Sprintf(", to %d/%d", k.uid, k.gid)
	case "Chmod":
		s += fmt.Sprintf(", to %o", k.mode)
	case "SetAcl":
		s += fmt.Sprintf(", to %v and %v", k.acl, k.def)
	case "SetXattrs":
		s += fmt.Sprintf(", to %d attributes", len(k.xattrs))
	case "SetFlags":
		s += fmt.Sprintf(", to %d", k.flags)
	}
	return s + " in " + drawn(f)
}

// drawn tells the nodes of a file system, in short.
func drawn(f api.FS) string {
	var s []string
	for i, n := range f.Nodes {
		var kids []string
		for _, d := range n.Kids {
			kids = append(kids, fmt.Sprintf("%.20q>%d", d.Name, d.Ino))
		}
		s = append(s, fmt.Sprintf("%d: kind %d, %o of %d/%d, flags %d, acl %v, kids %.300s", i, n.Kind, n.Meta.Mode, n.Meta.Uid, n.Meta.Gid, n.Meta.Flags, n.Meta.Acl, strings.Join(kids, " ")))
	}
	return fmt.Sprintf("room %d, op %d, faults %d\n\t%s", f.Room, f.Op, f.Faults, strings.Join(s, "\n\t"))
}
