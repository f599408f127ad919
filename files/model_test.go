package files_test

import (
	"slices"

	"kaudit/api"
	"kaudit/files"
	"kaudit/path"
)

// spot is where an entry stands.
type spot struct {
	dir  api.File
	name string
}

// model is files as two maps: what the nodes are, and where the entries lead to.
type model struct {
	next    []int
	nodes   map[api.File]api.Node // with the kind, the rights and the target alone
	entries map[spot]api.File
}

func modelOf(f api.Files) *model {
	m := &model{nodes: map[api.File]api.Node{}, entries: map[spot]api.File{}}
	for dev, d := range f.Devices {
		m.next = append(m.next, d.Next)
		for _, n := range d.Nodes {
			at := api.File{Dev: dev, Ino: n.Ino}
			m.nodes[at] = api.Node{Kind: n.Kind, Mode: n.Mode, UID: n.UID, GID: n.GID, Target: n.Target}
			for _, e := range n.Entries {
				m.entries[spot{at, e.Name}] = api.File{Dev: dev, Ino: e.Ino}
			}
		}
	}
	return m
}

// files puts the model together: in order, with the parents that the entries say.
func (m *model) files() api.Files {
	var f api.Files
	for dev, next := range m.next {
		d := api.Device{Next: next}
		for ino := 1; ino < next && ino < 1000; ino++ {
			at := api.File{Dev: dev, Ino: ino}
			n, found := m.nodes[at]
			if !found {
				continue
			}
			n.Ino = ino
			if n.Kind == api.NodeDir {
				n.Parent = m.above(at).Ino
			}
			for _, name := range m.names(at) {
				n.Entries = append(n.Entries, api.Entry{Name: name, Ino: m.entries[spot{at, name}].Ino})
			}
			d.Nodes = append(d.Nodes, n)
		}
		f.Devices = append(f.Devices, d)
	}
	return f
}

func (m *model) names(dir api.File) []string {
	var names []string
	for s := range m.entries {
		if s.dir == dir {
			names = append(names, s.name)
		}
	}
	slices.Sort(names)
	return names
}

// above returns the directory with an entry for at, and the root for the root.
func (m *model) above(at api.File) api.File {
	for s, to := range m.entries {
		if to == at {
			return s.dir
		}
	}
	return at
}

func (m *model) links(at api.File) int {
	count := 0
	for _, to := range m.entries {
		if to == at {
			count++
		}
	}
	return count
}

func (m *model) below(dir, above api.File) bool {
	for dir != above {
		up := m.above(dir)
		if up == dir {
			return false
		}
		dir = up
	}
	return true
}

func (m *model) missing(at api.File) bool {
	_, found := m.nodes[at]
	return !found
}

func (m *model) isDir(at api.File) bool { return m.nodes[at].Kind == api.NodeDir }

// count returns how many nodes are on a device.
func (m *model) count(dev int) int {
	count := 0
	for at := range m.nodes {
		if at.Dev == dev {
			count++
		}
	}
	return count
}

// change lets an entry lead elsewhere.
func (m *model) change(dir api.File, name string, to api.File) api.Change {
	s := spot{dir, name}
	c := api.Change{Dir: dir, Name: name, Old: m.entries[s], New: to}
	delete(m.entries, s)
	if to != (api.File{}) {
		m.entries[s] = to
	}
	return c
}

// sweep removes at if no entry leads to it.
func (m *model) sweep(at api.File) {
	if m.links(at) == 0 {
		delete(m.nodes, at)
	}
}

// same says that a renaming has no effect.
const same api.Sys = -1

type condition struct {
	holds bool
	e     api.Sys
}

func firstOf(conditions ...condition) api.Sys {
	for _, c := range conditions {
		if c.holds {
			return c.e
		}
	}
	return 0
}

// What is done in a step.
const (
	doMake = iota
	doLink
	doUnlink
	doRemove
	doRename
	doSet
	doCount
)

// step is a call of a function that changes files.
type step struct {
	do          int
	dir, dir2   api.File
	name, name2 string
	at          api.File
	node        api.Node
}

func (x step) run(f api.Files) (api.Files, []api.Change, api.Sys) {
	switch x.do {
	case doMake:
		return files.Make(f, x.dir, x.name, x.node)
	case doLink:
		return files.Link(f, x.dir, x.name, x.at)
	case doUnlink:
		return files.Unlink(f, x.dir, x.name)
	case doRemove:
		return files.RemoveDir(f, x.dir, x.name)
	case doRename:
		return files.Rename(f, x.dir, x.name, x.dir2, x.name2)
	}
	g, e := files.Set(f, x.at, x.node.Mode, x.node.UID, x.node.GID)
	return g, nil, e
}

// run does the step, or returns the error and leaves the model as it is.
func (m *model) run(x step) ([]api.Change, api.Sys) {
	switch x.do {
	case doMake:
		return m.make(x)
	case doLink:
		return m.link(x)
	case doUnlink, doRemove:
		return m.remove(x)
	case doRename:
		return m.rename(x)
	}
	return m.set(x)
}

func badRights(n api.Node) bool {
	bad := func(x, most int) bool { return x < 0 || x > most }
	return bad(n.Mode, 511) || bad(n.UID, 4294967295) || bad(n.GID, 4294967295)
}

func badNode(n api.Node) bool {
	switch n.Kind {
	case 1, 2:
		return n.Target != "" || badRights(n)
	case 3:
		return len(n.Target) < 1 || len(n.Target) > 128 || slices.Contains([]byte(n.Target), 0) || badRights(n)
	}
	return true
}

func (m *model) make(x step) ([]api.Change, api.Sys) {
	_, exists := m.entries[spot{x.dir, x.name}]
	e := firstOf(
		condition{m.missing(x.dir), api.ENOENT},
		condition{!m.isDir(x.dir), api.ENOTDIR},
		condition{!path.Name(x.name) || badNode(x.node), api.EINVAL},
		condition{exists, api.EEXIST},
		condition{m.count(x.dir.Dev) == 16 || len(m.names(x.dir)) == 12, api.ENOSPC},
	)
	if e != 0 {
		return nil, e
	}
	at := api.File{Dev: x.dir.Dev, Ino: m.next[x.dir.Dev]}
	m.next[x.dir.Dev]++
	m.nodes[at] = api.Node{Kind: x.node.Kind, Mode: x.node.Mode, UID: x.node.UID, GID: x.node.GID, Target: x.node.Target}
	return []api.Change{m.change(x.dir, x.name, at)}, 0
}

func (m *model) link(x step) ([]api.Change, api.Sys) {
	_, exists := m.entries[spot{x.dir, x.name}]
	e := firstOf(
		condition{m.missing(x.dir), api.ENOENT},
		condition{!m.isDir(x.dir), api.ENOTDIR},
		condition{!path.Name(x.name), api.EINVAL},
		condition{m.missing(x.at), api.ENOENT},
		condition{x.at.Dev != x.dir.Dev, api.EXDEV},
		condition{m.isDir(x.at), api.EPERM},
		condition{exists, api.EEXIST},
		condition{len(m.names(x.dir)) == 12, api.ENOSPC},
	)
	if e != 0 {
		return nil, e
	}
	return []api.Change{m.change(x.dir, x.name, x.at)}, 0
}

func (m *model) remove(x step) ([]api.Change, api.Sys) {
	at, exists := m.entries[spot{x.dir, x.name}]
	wantDir := x.do == doRemove
	e := firstOf(
		condition{m.missing(x.dir), api.ENOENT},
		condition{!m.isDir(x.dir), api.ENOTDIR},
		condition{!path.Name(x.name), api.EINVAL},
		condition{!exists, api.ENOENT},
		condition{!wantDir && m.isDir(at), api.EISDIR},
		condition{wantDir && !m.isDir(at), api.ENOTDIR},
		condition{len(m.names(at)) > 0, api.ENOTEMPTY},
	)
	if e != 0 {
		return nil, e
	}
	c := m.change(x.dir, x.name, api.File{})
	m.sweep(at)
	return []api.Change{c}, 0
}

func (m *model) rename(x step) ([]api.Change, api.Sys) {
	at, found := m.entries[spot{x.dir, x.name}]
	old, exists := m.entries[spot{x.dir2, x.name2}]
	e := firstOf(
		condition{m.missing(x.dir), api.ENOENT},
		condition{m.missing(x.dir2), api.ENOENT},
		condition{!m.isDir(x.dir), api.ENOTDIR},
		condition{!m.isDir(x.dir2), api.ENOTDIR},
		condition{!path.Name(x.name), api.EINVAL},
		condition{!path.Name(x.name2), api.EINVAL},
		condition{!found, api.ENOENT},
		condition{x.dir.Dev != x.dir2.Dev, api.EXDEV},
		condition{m.isDir(at) && m.below(x.dir2, at), api.EINVAL},
		condition{exists && old == at, same},
		condition{exists && m.isDir(old) && !m.isDir(at), api.EISDIR},
		condition{exists && !m.isDir(old) && m.isDir(at), api.ENOTDIR},
		condition{exists && len(m.names(old)) > 0, api.ENOTEMPTY},
		condition{!exists && len(m.names(x.dir2)) == 12 && x.dir != x.dir2, api.ENOSPC},
	)
	if e == same {
		return nil, 0
	}
	if e != 0 {
		return nil, e
	}
	c := m.change(x.dir, x.name, api.File{})
	d := m.change(x.dir2, x.name2, at)
	m.sweep(old)
	return []api.Change{c, d}, 0
}

func (m *model) set(x step) ([]api.Change, api.Sys) {
	e := firstOf(
		condition{m.missing(x.at), api.ENOENT},
		condition{badRights(x.node), api.EINVAL},
	)
	if e == 0 {
		n := m.nodes[x.at]
		n.Mode, n.UID, n.GID = x.node.Mode, x.node.UID, x.node.GID
		m.nodes[x.at] = n
	}
	return nil, e
}
