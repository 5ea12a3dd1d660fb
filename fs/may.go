package fs

import (
	"strings"

	"gripsack/api"
	"gripsack/entry"
	"gripsack/meta"
)

// rights are the bits of a Mode that an access list says as well.
const rights = 0o777

const maxMode = api.SetUid | api.SetGid | api.Sticky | rights

func mayMode(mode int) bool {
	return mode >= 0 && mode <= maxMode
}

func mayId(id int) bool {
	return id >= 0 && id <= api.MaxId
}

// May reports whether a file system is valid.
func May(f api.FS) bool {
	if len(f.Nodes) < 1 || len(f.Nodes) > api.MaxNodes || f.Room < 0 || f.Op < 0 {
		return false
	}
	for _, n := range f.Nodes {
		if !mayNode(n) {
			return false
		}
	}
	return f.Nodes[0].Kind == api.KDir && mayNames(f.Nodes)
}

// mayNode tells whether n may be a node, wherever its Kids lead.
func mayNode(n api.Inode) bool {
	if n.Kind == 0 {
		return unused(n)
	}
	return meta.May(n.Meta, n.Kind) && mayContent(n) && (n.Kind == api.KDir || len(n.Kids) == 0)
}

func unused(n api.Inode) bool {
	return n.Kind == 0 && meta.Same(n.Meta, api.Meta{}) && n.Data == "" && n.Target == "" &&
		n.Major == 0 && n.Minor == 0 && len(n.Kids) == 0
}

// mayContent tells whether n's kind is one of nodes, and may have n's Data,
// Target, Major and Minor. These are asked in an entry whose other fields are
// right for each kind of a node; they are wrong for a KHard, which has no
// metadata.
func mayContent(n api.Inode) bool {
	return entry.May(api.Entry{
		Path: "n", Kind: n.Kind, Meta: meta.Plain(rights, 0, 0),
		Data: n.Data, Target: n.Target, Major: n.Major, Minor: n.Minor,
	})
}

// mayNames tells whether the names of nodes lead to each of them as they should.
func mayNames(nodes []api.Inode) bool {
	s := survey{nodes: nodes}
	if !s.walk(0, "") {
		return false
	}
	// A node that was never met has no name, or one in a directory that was
	// never met either.
	for i := 1; i < len(nodes); i++ {
		if nodes[i].Kind != 0 && s.met[i] == 0 {
			return false
		}
	}
	return true
}

// survey counts how often each node is met on all ways from the root.
type survey struct {
	nodes []api.Inode
	met   [api.MaxNodes]int
}

// walk tells whether the names in a directory, and in all below it, may be.
// Their paths begin with prefix. A directory that is met again is refused, so
// that the walk ends.
func (s *survey) walk(dir int, prefix string) bool {
	kids := s.nodes[dir].Kids
	for i, d := range kids {
		if i > 0 && kids[i-1].Name >= d.Name || !s.mayLead(d.Ino) {
			return false
		}
		// A name with a slash would pass for two of them.
		path := prefix + d.Name
		if strings.Contains(d.Name, slash) || !entry.Path(path) {
			return false
		}
		s.met[d.Ino]++
		if s.nodes[d.Ino].Kind == api.KDir && (s.met[d.Ino] > 1 || !s.walk(d.Ino, path+slash)) {
			return false
		}
	}
	return true
}

// mayLead tells whether a name may lead to a number.
func (s *survey) mayLead(ino int) bool {
	return ino > 0 && ino < len(s.nodes) && s.nodes[ino].Kind != 0
}
