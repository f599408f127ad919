package mounts

import (
	"iter"
	"slices"

	"kaudit/api"
	"kaudit/files"
)

// chain gives the directory dir and all above it, with those on which their devices are mounted.
func chain(s api.Space, dir api.File) iter.Seq[api.File] {
	return func(yield func(api.File) bool) {
		at := dir
	climb:
		for range countNodes(s.Files) {
			n, found := files.Node(s.Files, at)
			if !found || n.Kind != api.NodeDir || !yield(at) {
				return
			}
			if !isRoot(at) {
				at.Ino = n.Parent
				continue
			}
			for _, m := range s.Mounts {
				if m.Dev == at.Dev {
					at = m.On
					continue climb
				}
			}
			return
		}
	}
}

// countNodes returns the number of all nodes. No chain is longer, but those of spaces that are not valid: they may be circles.
func countNodes(f api.Files) int {
	count := 0
	for _, d := range f.Devices {
		count += len(d.Nodes)
	}
	return count
}

// nameOf returns the name of the entry that leads to a directory.
func nameOf(s api.Space, dir api.File) string {
	n, _ := files.Node(s.Files, dir)
	parent, _ := files.Node(s.Files, api.File{Dev: dir.Dev, Ino: n.Parent})
	i := slices.IndexFunc(parent.Entries, func(e api.Entry) bool { return e.Ino == dir.Ino })
	if i < 0 {
		return ""
	}
	return parent.Entries[i].Name
}

// mountOn returns which device is mounted on a directory, and whether there is one.
func mountOn(s api.Space, at api.File) (dev int, covered bool) {
	i := slices.IndexFunc(s.Mounts, func(m api.Mount) bool { return m.On == at })
	if i < 0 {
		return 0, false
	}
	return s.Mounts[i].Dev, true
}

func rootOf(dev int) api.File { return api.File{Dev: dev, Ino: rootIno} }

func isRoot(at api.File) bool { return at.Ino == rootIno }
