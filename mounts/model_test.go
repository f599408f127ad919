package mounts_test

import (
	"slices"

	"kaudit/api"
	"kaudit/files"
)

// model says of each directory where it is, walked from the roots downwards. Directories that are not mounted have no path.
type model struct {
	space   api.Space
	path    map[api.File]string
	chain   map[api.File][]api.File
	visible map[api.File]bool
}

func modelOf(s api.Space) *model {
	m := &model{space: s, path: map[api.File]string{}, chain: map[api.File][]api.File{}, visible: map[api.File]bool{}}
	m.walk(root(0), "/", nil)
	for dev := range s.Files.Devices {
		if m.chain[root(dev)] == nil {
			m.walk(root(dev), "", nil)
		}
	}
	m.look(m.top(root(0)))
	return m
}

// walk notes dir, which is at this place below the directories of above.
func (m *model) walk(dir api.File, place string, above []api.File) {
	chain := append([]api.File{dir}, above...)
	m.chain[dir] = chain
	if place != "" {
		m.path[dir] = place
	}
	for name, to := range m.entries(dir) {
		next := place + "/" + name
		if place == "/" {
			next = "/" + name
		}
		if place == "" {
			next = ""
		}
		m.walk(to, next, chain)
	}
	for _, x := range m.space.Mounts {
		if x.On == dir {
			m.walk(root(x.Dev), place, chain)
		}
	}
}

// look notes that dir, and what can be entered from it, is visible.
func (m *model) look(dir api.File) {
	m.visible[dir] = true
	for _, to := range m.entries(dir) {
		m.look(m.top(to))
	}
}

// top returns what is on top of a directory.
func (m *model) top(dir api.File) api.File {
	for _, x := range m.space.Mounts {
		if x.On == dir {
			return m.top(root(x.Dev))
		}
	}
	return dir
}

// up returns the directory from which dir, or what it covers, is entered.
func (m *model) up(dir api.File) api.File {
	chain := m.chain[dir]
	for i := 1; i < len(chain); i++ {
		for _, to := range m.entries(chain[i]) {
			if to == chain[i-1] {
				return chain[i]
			}
		}
	}
	if len(chain) == 0 {
		return api.File{}
	}
	return chain[len(chain)-1]
}

// entries returns the entries of dir that lead to directories.
func (m *model) entries(dir api.File) map[string]api.File {
	dirs := map[string]api.File{}
	n, _ := files.Node(m.space.Files, dir)
	for _, e := range n.Entries {
		to := api.File{Dev: dir.Dev, Ino: e.Ino}
		if child, _ := files.Node(m.space.Files, to); child.Kind == api.NodeDir {
			dirs[e.Name] = to
		}
	}
	return dirs
}

// isDir reports whether at is a directory.
func (m *model) isDir(at api.File) bool { return m.chain[at] != nil }

// validMounts reports whether the mounts of a space are valid, as the chapter says it of all of them.
func validMounts(s api.Space) bool {
	for i, x := range s.Mounts {
		n, _ := files.Node(s.Files, x.On)
		stands := x.On.Dev == 0
		for j, y := range s.Mounts {
			if i != j && (x.Dev == y.Dev || x.On == y.On) {
				return false
			}
			stands = stands || j < i && y.Dev == x.On.Dev
		}
		if !stands || n.Kind != api.NodeDir || !slices.Contains([]int{1, 2}, x.Dev) || x.Dev >= len(s.Files.Devices) {
			return false
		}
	}
	return true
}
