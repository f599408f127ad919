package lookup

import (
	"kaudit/api"
	"kaudit/files"
	"kaudit/mounts"
	"kaudit/path"
)

// walk is a lookup on its way.
type walk struct {
	space    api.Space
	found    api.Found // where the pieces that were taken lead; its File is the current node
	rest     []string  // the pieces that are still to be taken
	through  bool      // whether a link is followed also if no piece follows
	followed int       // the number of the links that were followed
}

// takeAll takes all pieces, one after the other.
func (w *walk) takeAll() api.Sys {
next:
	for len(w.rest) > 0 {
		// What is left has no room behind it: no pieces that are put to a list are ever put into this one.
		piece, left := w.rest[0], len(w.rest)
		w.rest = w.rest[1:left:left]
		if !w.inDirectory() {
			return api.ENOTDIR
		}
		if len(piece) > api.MaxName {
			return api.ENAMETOOLONG
		}
		switch piece {
		case current:
			w.stand(w.found.File)
			continue next
		case above:
			w.stand(mounts.Down(w.space, mounts.Up(w.space, w.found.File)))
			continue next
		}
		if e := w.look(piece); e != 0 {
			return e
		}
	}
	return 0
}

// look takes a piece that names an entry of the current directory.
func (w *walk) look(piece string) api.Sys {
	dir := w.found.File
	to, e := files.Look(w.space.Files, dir, piece)
	exists, last := e == 0, len(w.rest) == 0
	if !path.Name(piece) || !exists && !last {
		return api.ENOENT
	}
	kind, target := kindOf(w.space, to)
	if kind == api.NodeLink && (w.through || !last) {
		return w.followTo(target)
	}
	w.found = api.Found{Dir: dir, Name: piece, File: mounts.Down(w.space, to), Exists: exists}
	return 0
}

// followTo puts the pieces of a link's target before those that are still to be taken.
func (w *walk) followTo(target string) api.Sys {
	if w.followed == api.MaxFollow {
		return api.ELOOP
	}
	w.followed++
	pieces, absolute, _ := path.Split(target)
	if absolute {
		w.standAtRoot()
	}
	w.rest = append(pieces, w.rest...)
	return 0
}

// stand makes a directory the current one, which no name of an entry leads to.
func (w *walk) stand(dir api.File) {
	w.found = api.Found{Dir: dir, File: dir, Exists: true}
}

// standAtRoot makes what is on top of the root of device 0 the current directory.
func (w *walk) standAtRoot() {
	w.stand(mounts.Down(w.space, api.File{Ino: rootIno}))
}

// inDirectory reports whether the current node is a directory.
func (w *walk) inDirectory() bool {
	kind, _ := kindOf(w.space, w.found.File)
	return kind == api.NodeDir
}
