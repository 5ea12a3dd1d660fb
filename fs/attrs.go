package fs

import (
	"slices"
	"strings"

	"gripsack/acl"
	"gripsack/api"
	"gripsack/caps"
	"gripsack/flags"
	"gripsack/right"
	"gripsack/stamp"
	"gripsack/xattr"
)

// Attributes whose Names begin with one of these are not for everybody.
const (
	trusted  = "trusted."
	security = "security."
)

// alter returns f after an operation on the node at a path.
func alter(f api.FS, c api.Cred, path string, may bool, do func(n *api.Inode)) (api.FS, api.Errno) {
	names, ok := Parts(path)
	return operate(f, ok && may, func(g *api.FS) {
		do(&g.Nodes[follow(*g, c, names)])
	})
}

// mayAlter tells whether c may change what its owner may change of n.
func mayAlter(n api.Inode, c api.Cred) bool {
	return !shut(n) && right.Owner(n.Meta, c)
}

// Chown sets Uid and Gid.
func Chown(f api.FS, c api.Cred, path string, uid, gid int) (api.FS, api.Errno) {
	return alter(f, c, path, mayId(uid) && mayId(gid), func(n *api.Inode) {
		m := &n.Meta
		keeps := c.Uid == m.Uid && c.Uid == uid && right.In(c, gid)
		must(!shut(*n) && (keeps || has(c, api.PChown)), api.ErrDenied)
		m.Uid, m.Gid = uid, gid
		// What one owner granted to all who run the file isn't the next one's.
		if n.Kind == api.KFile {
			m.Mode &^= api.SetUid | api.SetGid
			m.Caps = api.Caps{}
		}
	})
}

// Chmod sets Mode, and the same rights in Acl if there is one.
func Chmod(f api.FS, c api.Cred, path string, mode int) (api.FS, api.Errno) {
	return alter(f, c, path, mayMode(mode), func(n *api.Inode) {
		must(n.Kind != api.KSym, api.ErrKind)
		must(mayAlter(*n, c), api.ErrDenied)
		n.Meta.Mode = mode
		// Nobody lends out a group that he isn't in.
		if n.Kind == api.KFile && !right.In(c, n.Meta.Gid) && !has(c, api.POwner) {
			n.Meta.Mode &^= api.SetGid
		}
		setPerms(n.Meta.Acl, mode)
	})
}

// setPerms makes mode the one of l.
func setPerms(l []api.Ace, mode int) {
	group := api.TGroup
	if slices.ContainsFunc(l, func(a api.Ace) bool { return a.Tag == api.TMask }) {
		group = api.TMask
	}
	for i := range l {
		switch l[i].Tag {
		case api.TOwner:
			l[i].Perm = mode >> 6 & 7
		case group:
			l[i].Perm = mode >> 3 & 7
		case api.TOther:
			l[i].Perm = mode & 7
		}
	}
}

// SetAcl sets Acl and Default, and the same rights in Mode if Acl says them.
func SetAcl(f api.FS, c api.Cred, path string, l, def []api.Ace) (api.FS, api.Errno) {
	return alter(f, c, path, mayAcl(l) && mayAcl(def), func(n *api.Inode) {
		must(n.Kind != api.KSym && (n.Kind == api.KDir || len(def) == 0), api.ErrKind)
		must(mayAlter(*n, c), api.ErrDenied)
		n.Meta.Acl, n.Meta.Default = slices.Clone(l), slices.Clone(def)
		if len(l) > 0 {
			n.Meta.Mode = n.Meta.Mode&^rights | acl.Mode(l)
		}
	})
}

func mayAcl(l []api.Ace) bool {
	return len(l) == 0 || acl.May(l)
}

// SetXattrs sets Xattrs.
func SetXattrs(f api.FS, c api.Cred, path string, l []api.Xattr) (api.FS, api.Errno) {
	return alter(f, c, path, xattr.May(l), func(n *api.Inode) {
		m := &n.Meta
		writes := right.Owner(*m, c) || right.Can(*m, c, api.W)
		must(!shut(*n) && writes, api.ErrDenied)
		must(has(c, api.PXattrs) || xattr.Same(guarded(l), guarded(m.Xattrs)), api.ErrDenied)
		m.Xattrs = owned(l)
	})
}

// guarded returns the attributes of l that are not for everybody.
func guarded(l []api.Xattr) []api.Xattr {
	return slices.DeleteFunc(slices.Clone(l), func(x api.Xattr) bool {
		return !strings.HasPrefix(x.Name, trusted) && !strings.HasPrefix(x.Name, security)
	})
}

// owned returns l with texts of its own: parts of greater ones would keep all
// of these in memory.
func owned(l []api.Xattr) []api.Xattr {
	var out []api.Xattr
	for _, x := range l {
		out = append(out, api.Xattr{Name: strings.Clone(x.Name), Value: strings.Clone(x.Value)})
	}
	return out
}

// SetCaps sets Caps.
func SetCaps(f api.FS, c api.Cred, path string, x api.Caps) (api.FS, api.Errno) {
	return alter(f, c, path, caps.May(x), func(n *api.Inode) {
		must(n.Kind == api.KFile, api.ErrKind)
		must(!shut(*n) && has(c, api.PCaps), api.ErrDenied)
		n.Meta.Caps = x
	})
}

// SetTime sets Mtime.
func SetTime(f api.FS, c api.Cred, path string, t api.Stamp) (api.FS, api.Errno) {
	return alter(f, c, path, stamp.May(t), func(n *api.Inode) {
		must(mayAlter(*n, c), api.ErrDenied)
		n.Meta.Mtime = t
	})
}

// SetFlags sets Flags. It alone opens a node that is shut.
func SetFlags(f api.FS, c api.Cred, path string, n int) (api.FS, api.Errno) {
	return alter(f, c, path, flags.May(n), func(node *api.Inode) {
		must(node.Kind != api.KSym, api.ErrKind)
		turned := (n ^ node.Meta.Flags) & (api.FImmutable | api.FAppend)
		must(right.Owner(node.Meta, c) && (turned == 0 || has(c, api.PFlags)), api.ErrDenied)
		node.Meta.Flags = n
	})
}
