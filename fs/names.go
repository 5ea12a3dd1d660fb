package fs

import (
	"math"
	"slices"
	"strings"

	"gripsack/api"
	"gripsack/meta"
	"gripsack/right"
)

// operate returns f after an operation that was asked. If its arguments may be,
// it is counted, and do makes the changes. do names all errors ahead of its
// first change, so that f is as it was beside an error.
func operate(f api.FS, may bool, do func(g *api.FS)) (g api.FS, e api.Errno) {
	g = copied(f)
	defer func() { e = ended(recover()) }()
	must(may, api.ErrArg)
	// No number behind the greatest one is valid.
	if g.Op < math.MaxInt {
		g.Op++
	}
	must(!slices.Contains(g.Faults, g.Op), api.ErrFault)
	do(&g)
	return g, api.OK
}

// copied returns f in new memory, but for its texts: nobody can write into them.
func copied(f api.FS) api.FS {
	f.Faults = slices.Clone(f.Faults)
	f.Nodes = slices.Clone(f.Nodes)
	for i := range f.Nodes {
		n := &f.Nodes[i]
		n.Kids = slices.Clone(n.Kids)
		n.Meta.Acl = slices.Clone(n.Meta.Acl)
		n.Meta.Default = slices.Clone(n.Meta.Default)
		n.Meta.Xattrs = slices.Clone(n.Meta.Xattrs)
	}
	return f
}

// Make creates a node like n, of c's, at a path.
func Make(f api.FS, c api.Cred, path string, n api.Inode) (api.FS, api.Errno) {
	names, ok := Parts(path)
	may := ok && len(names) > 0 && mayMode(n.Meta.Mode) && mayContent(n)
	return operate(f, may, func(g *api.FS) {
		dir, name := parent(*g, c, names)
		must(g.Nodes[dir].Kind == api.KDir, api.ErrKind)
		must(writable(g.Nodes[dir], c), api.ErrDenied)
		must(!named(g.Nodes[dir], name), api.ErrHave)
		must(!device(n.Kind) || has(c, api.PNodes), api.ErrDenied)
		at := place(*g)
		must(at < api.MaxNodes && len(n.Data) <= g.Room, api.ErrFull)
		if at == len(g.Nodes) {
			g.Nodes = append(g.Nodes, api.Inode{})
		}
		g.Nodes[at] = made(n, c)
		g.Room -= len(n.Data)
		enter(&g.Nodes[dir], name, at)
	})
}

// Link adds another name for the node at old.
func Link(f api.FS, c api.Cred, old, path string) (api.FS, api.Errno) {
	olds, oldOk := Parts(old)
	names, ok := Parts(path)
	return operate(f, oldOk && ok && len(names) > 0, func(g *api.FS) {
		at := follow(*g, c, olds)
		dir, name := parent(*g, c, names)
		must(g.Nodes[at].Kind != api.KDir && g.Nodes[dir].Kind == api.KDir, api.ErrKind)
		must(writable(g.Nodes[dir], c) && !shut(g.Nodes[at]), api.ErrDenied)
		must(!named(g.Nodes[dir], name), api.ErrHave)
		enter(&g.Nodes[dir], name, at)
	})
}

// Remove removes a name, and its node if that has no other one.
func Remove(f api.FS, c api.Cred, path string) (api.FS, api.Errno) {
	names, ok := Parts(path)
	return operate(f, ok && len(names) > 0, func(g *api.FS) {
		dir, name := parent(*g, c, names)
		at := follow(*g, c, names)
		must(mayRemove(g.Nodes[dir], g.Nodes[at], c), api.ErrDenied)
		must(len(g.Nodes[at].Kids) == 0, api.ErrBusy)
		leave(&g.Nodes[dir], name)
		if !led(*g, at) {
			g.Nodes[at] = api.Inode{}
		}
	})
}

// parent returns the number of the node in which the last of names is one.
func parent(f api.FS, c api.Cred, names []string) (int, string) {
	last := len(names) - 1
	return follow(f, c, names[:last]), names[last]
}

func has(c api.Cred, power int) bool {
	return c.Powers&power != 0
}

// writable tells whether c can write in a directory.
func writable(dir api.Inode, c api.Cred) bool {
	return right.Can(dir.Meta, c, api.W|api.X) && dir.Meta.Flags&api.FImmutable == 0
}

// shut tells whether the Flags of n keep what it has and all that is said of it.
func shut(n api.Inode) bool {
	return n.Meta.Flags&(api.FImmutable|api.FAppend) != 0
}

// mayRemove tells whether c may remove a name of n in a directory.
func mayRemove(dir, n api.Inode, c api.Cred) bool {
	others := dir.Meta.Mode&api.Sticky != 0 && !right.Owner(dir.Meta, c) && !right.Owner(n.Meta, c)
	return writable(dir, c) && !others && !shut(n)
}

func device(kind int) bool {
	return kind == api.KChar || kind == api.KBlock
}

// place returns the number that the next node gets.
func place(f api.FS) int {
	at := slices.IndexFunc(f.Nodes, func(n api.Inode) bool { return n.Kind == 0 })
	if at < 0 {
		return len(f.Nodes)
	}
	return at
}

// made returns the node that c makes. Of n's metadata the Mode alone is asked
// for, and a KSym has none but its own.
func made(n api.Inode, c api.Cred) api.Inode {
	mode := n.Meta.Mode
	if n.Kind == api.KSym {
		mode = rights
	}
	return api.Inode{
		Kind: n.Kind, Meta: meta.Plain(mode, c.Uid, c.Gid),
		// Parts of greater texts would keep all of these in memory.
		Data: strings.Clone(n.Data), Target: strings.Clone(n.Target),
		Major: n.Major, Minor: n.Minor,
	}
}

func named(dir api.Inode, name string) bool {
	_, ok := search(dir.Kids, name)
	return ok
}

// enter adds a name that dir doesn't have.
func enter(dir *api.Inode, name string, at int) {
	i, _ := search(dir.Kids, name)
	dir.Kids = slices.Insert(dir.Kids, i, api.Dirent{Name: name, Ino: at})
}

// leave removes a name that dir has.
func leave(dir *api.Inode, name string) {
	i, _ := search(dir.Kids, name)
	dir.Kids = slices.Delete(dir.Kids, i, i+1)
}

// led tells whether a name leads to a node.
func led(f api.FS, at int) bool {
	for _, n := range f.Nodes {
		if slices.ContainsFunc(n.Kids, func(d api.Dirent) bool { return d.Ino == at }) {
			return true
		}
	}
	return false
}
