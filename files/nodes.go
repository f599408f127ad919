package files

import (
	"cmp"
	"slices"

	"kaudit/api"
	"kaudit/path"
)

// place is where an entry stands, or could stand.
type place struct {
	dir  api.File
	name string
}

// nodeAt returns the node itself, nil if there is none.
func nodeAt(f api.Files, at api.File) *api.Node {
	if at.Dev < 0 || at.Dev >= len(f.Devices) {
		return nil
	}
	nodes := f.Devices[at.Dev].Nodes
	i := indexOf(nodes, at.Ino)
	if i < 0 {
		return nil
	}
	return &nodes[i]
}

// indexOf returns where the node with this number is, -1 if there is none. It finds a node also among nodes that are out of order.
func indexOf(nodes []api.Node, ino int) int {
	return slices.IndexFunc(nodes, func(n api.Node) bool { return n.Ino == ino })
}

// isDir reports whether at is a directory.
func isDir(f api.Files, at api.File) bool {
	n := nodeAt(f, at)
	return n != nil && n.Kind == api.NodeDir
}

// checkDirs returns the error of places whose directories are none.
func checkDirs(f api.Files, places ...place) api.Sys {
	for _, p := range places {
		if nodeAt(f, p.dir) == nil {
			return api.ENOENT
		}
	}
	for _, p := range places {
		if !isDir(f, p.dir) {
			return api.ENOTDIR
		}
	}
	return 0
}

// checkPlaces returns the error of places at which no entry can stand.
func checkPlaces(f api.Files, places ...place) api.Sys {
	if e := checkDirs(f, places...); e != 0 {
		return e
	}
	for _, p := range places {
		if !path.Name(p.name) {
			return api.EINVAL
		}
	}
	return 0
}

// leadsTo returns the node to which the entry at p leads, and whether there is such an entry.
func leadsTo(f api.Files, p place) (api.File, bool) {
	dir := nodeAt(f, p.dir)
	if dir == nil {
		return api.File{}, false
	}
	i, found := entryOf(dir.Entries, p.name)
	if !found {
		return api.File{}, false
	}
	return api.File{Dev: p.dir.Dev, Ino: dir.Entries[i].Ino}, true
}

// entryOf returns where the entry with this name stands or would stand, and whether it is there.
func entryOf(entries []api.Entry, name string) (int, bool) {
	return slices.BinarySearchFunc(entries, name, func(e api.Entry, name string) int { return cmp.Compare(e.Name, name) })
}

// hasRoom reports whether one more entry can stand in dir.
func hasRoom(f api.Files, dir api.File) bool {
	n := nodeAt(f, dir)
	return n != nil && len(n.Entries) < api.MaxEntries
}

// isEmpty reports whether dir has no entries.
func isEmpty(f api.Files, dir api.File) bool {
	n := nodeAt(f, dir)
	return n == nil || len(n.Entries) == 0
}

// within reports whether the directory dir is above or lies below it.
func within(nodes []api.Node, dir, above int) bool {
	// Nodes that are not valid may be their own parents: no way up is longer than the list of nodes.
	for range nodes {
		if dir == above {
			return true
		}
		i := indexOf(nodes, dir)
		if i < 0 {
			return false
		}
		dir = nodes[i].Parent
	}
	return false
}
