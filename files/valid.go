package files

import (
	"slices"

	"kaudit/api"
	"kaudit/path"
)

// Valid reports whether f is valid.
func Valid(f api.Files) bool {
	if len(f.Devices) < 1 || len(f.Devices) > api.MaxDevices {
		return false
	}
	for _, d := range f.Devices {
		if !validNodes(d) || !validLinks(d.Nodes) || !validTree(d.Nodes) {
			return false
		}
	}
	return true
}

// validNodes reports whether d has a root and a possible next number, and each node alone is as described.
func validNodes(d api.Device) bool {
	if len(d.Nodes) < 1 || len(d.Nodes) > api.MaxNodes || d.Next <= rootIno || d.Next > api.MaxIno {
		return false
	}
	root := d.Nodes[0]
	if root.Ino != rootIno || root.Kind != api.NodeDir || root.Parent != rootIno {
		return false
	}
	before := 0
	for _, n := range d.Nodes {
		if n.Ino <= before || n.Ino >= d.Next || !validNode(n) {
			return false
		}
		before = n.Ino
	}
	return true
}

func validNode(n api.Node) bool {
	if !validKind(n.Kind) || !validRights(n.Mode, n.UID, n.GID) || !validTarget(n.Kind, n.Target) {
		return false
	}
	if n.Kind != api.NodeDir {
		return n.Parent == 0 && len(n.Entries) == 0
	}
	return validEntries(n.Entries)
}

// validEntries reports whether these can be the entries of a directory, wherever they lead to.
func validEntries(entries []api.Entry) bool {
	before := ""
	for _, e := range entries {
		if !path.Name(e.Name) || e.Name <= before {
			return false
		}
		before = e.Name
	}
	return len(entries) <= api.MaxEntries
}

// validLinks reports whether all entries lead to nodes other than the root, and each of these has as many entries as it may have.
func validLinks(nodes []api.Node) bool {
	links := make([]int, len(nodes))
	for _, n := range nodes {
		for _, e := range n.Entries {
			i := indexOf(nodes, e.Ino)
			if i <= 0 || nodes[i].Kind == api.NodeDir && nodes[i].Parent != n.Ino {
				return false
			}
			links[i]++
		}
	}
	for i, n := range nodes[1:] {
		count := links[i+1]
		if count == 0 || count > 1 && n.Kind == api.NodeDir {
			return false
		}
	}
	return true
}

// validTree reports whether every directory is reached from the root. Each of them has its entry in its parent: the way up is the way down.
func validTree(nodes []api.Node) bool {
	return !slices.ContainsFunc(nodes, func(n api.Node) bool {
		return n.Kind == api.NodeDir && !within(nodes, n.Ino, rootIno)
	})
}
