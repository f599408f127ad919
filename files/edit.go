package files

import (
	"slices"

	"kaudit/api"
	"kaudit/copies"
)

// edit is files while they are changed, with the changes of entries so far.
type edit struct {
	files   api.Files
	changes []api.Change
}

// edited returns f and the changes after a step, and nothing but the error if the step has one.
func edited(f api.Files, step func(w *edit) api.Sys) (g api.Files, changes []api.Change, e api.Sys) {
	w := edit{files: copies.Files(f)}
	defer func() {
		if e == 0 {
			w.dropLost()
			g, changes = w.files, w.changes
		}
	}()
	return g, changes, step(&w)
}

// point lets the entry at p lead to a node, or removes it if to is the zero File.
func (w *edit) point(p place, to api.File) {
	dir := nodeAt(w.files, p.dir)
	change := api.Change{Dir: p.dir, Name: p.name, New: to}
	i, found := entryOf(dir.Entries, p.name)
	if found {
		change.Old = api.File{Dev: p.dir.Dev, Ino: dir.Entries[i].Ino}
		dir.Entries = slices.Delete(dir.Entries, i, i+1)
	}
	if to != (api.File{}) {
		dir.Entries = slices.Insert(dir.Entries, i, api.Entry{Name: p.name, Ino: to.Ino})
	}
	w.changes = append(w.changes, change)
}

// dropLost removes the nodes that have lost their last entries. This waits for the end of a step because a node that moves has no entry for a while.
func (w *edit) dropLost() {
	for _, c := range w.changes {
		if nodeAt(w.files, c.Old) == nil || Links(w.files, c.Old) > 0 {
			continue
		}
		d := &w.files.Devices[c.Old.Dev]
		i := indexOf(d.Nodes, c.Old.Ino)
		d.Nodes = slices.Delete(d.Nodes, i, i+1)
	}
}

func (w *edit) makeNode(p place, n api.Node) api.Sys {
	if e := checkPlaces(w.files, p); e != 0 {
		return e
	}
	if !validKind(n.Kind) || !validRights(n.Mode, n.UID, n.GID) || !validTarget(n.Kind, n.Target) {
		return api.EINVAL
	}
	if _, found := leadsTo(w.files, p); found {
		return api.EEXIST
	}
	d := &w.files.Devices[p.dir.Dev]
	if len(d.Nodes) >= api.MaxNodes || d.Next >= api.MaxIno || !hasRoom(w.files, p.dir) {
		return api.ENOSPC
	}
	made := api.Node{Ino: d.Next, Kind: n.Kind, Mode: n.Mode, UID: n.UID, GID: n.GID, Target: n.Target}
	if made.Kind == api.NodeDir {
		made.Parent = p.dir.Ino
	}
	d.Nodes = append(d.Nodes, made)
	d.Next++
	w.point(p, api.File{Dev: p.dir.Dev, Ino: made.Ino})
	return 0
}

func (w *edit) link(p place, at api.File) api.Sys {
	if e := checkPlaces(w.files, p); e != 0 {
		return e
	}
	_, exists := leadsTo(w.files, p)
	switch {
	case nodeAt(w.files, at) == nil:
		return api.ENOENT
	case at.Dev != p.dir.Dev:
		return api.EXDEV
	case isDir(w.files, at):
		return api.EPERM
	case exists:
		return api.EEXIST
	case !hasRoom(w.files, p.dir):
		return api.ENOSPC
	}
	w.point(p, at)
	return 0
}

func (w *edit) unlink(p place) api.Sys {
	if e := checkPlaces(w.files, p); e != 0 {
		return e
	}
	at, found := leadsTo(w.files, p)
	switch {
	case !found:
		return api.ENOENT
	case isDir(w.files, at):
		return api.EISDIR
	}
	w.point(p, api.File{})
	return 0
}

func (w *edit) removeDir(p place) api.Sys {
	if e := checkPlaces(w.files, p); e != 0 {
		return e
	}
	at, found := leadsTo(w.files, p)
	switch {
	case !found:
		return api.ENOENT
	case !isDir(w.files, at):
		return api.ENOTDIR
	case !isEmpty(w.files, at):
		return api.ENOTEMPTY
	}
	w.point(p, api.File{})
	return 0
}

func (w *edit) rename(p, q place) api.Sys {
	if e := checkPlaces(w.files, p, q); e != 0 {
		return e
	}
	at, found := leadsTo(w.files, p)
	old, exists := leadsTo(w.files, q)
	switch {
	case !found:
		return api.ENOENT
	case p.dir.Dev != q.dir.Dev:
		return api.EXDEV
	case isDir(w.files, at) && within(w.files.Devices[at.Dev].Nodes, q.dir.Ino, at.Ino):
		return api.EINVAL
	case exists && old == at:
		return 0
	case exists:
		if e := w.checkReplace(at, old); e != 0 {
			return e
		}
	case p.dir != q.dir && !hasRoom(w.files, q.dir):
		return api.ENOSPC
	}
	w.point(p, api.File{})
	w.point(q, at)
	if isDir(w.files, at) {
		nodeAt(w.files, at).Parent = q.dir.Ino
	}
	return 0
}

// checkReplace returns the error if the node at cannot take the place of the node old.
func (w *edit) checkReplace(at, old api.File) api.Sys {
	dir, oldDir := isDir(w.files, at), isDir(w.files, old)
	switch {
	case oldDir && !dir:
		return api.EISDIR
	case dir && !oldDir:
		return api.ENOTDIR
	case oldDir && !isEmpty(w.files, old):
		return api.ENOTEMPTY
	}
	return 0
}
