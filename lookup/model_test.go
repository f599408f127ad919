package lookup_test

import (
	"strings"

	"kaudit/api"
	"kaudit/files"
	"kaudit/mounts"
)

// model resolves paths by recursion: where a link leads is found out as a whole, before the pieces after it are looked at.
type model struct {
	space    api.Space
	followed int
}

// spot is where the pieces that were taken lead.
type spot struct {
	dir, file api.File
	name      string
	exists    bool
}

func standing(dir api.File) spot { return spot{dir: dir, file: dir, exists: true} }

// findByModel is what Find shall return.
func findByModel(s api.Space, start api.File, p string, follow bool) (api.Found, api.Sys) {
	m := &model{space: s}
	absolute, slash := strings.HasPrefix(p, "/"), strings.HasSuffix(p, "/")
	switch {
	case p == "":
		return api.Found{}, api.ENOENT
	case len(p) > 128:
		return api.Found{}, api.ENAMETOOLONG
	case !absolute && m.node(start).Kind != api.NodeDir:
		return api.Found{}, api.ENOENT
	}
	x, e := m.resolve(start, p, follow || slash)
	if e == 0 && slash && x.exists && m.node(x.file).Kind != api.NodeDir {
		e = api.ENOTDIR
	}
	if e != 0 {
		return api.Found{}, e
	}
	where, ok := mounts.Where(s, x.dir)
	if ok && x.name != "" {
		where = strings.TrimSuffix(where, "/") + "/" + x.name
	}
	return api.Found{Dir: x.dir, Name: x.name, File: x.file, Exists: x.exists, Slash: slash, Path: where}, 0
}

// resolve resolves the text from a directory, and follows a link at its end if through is set.
func (m *model) resolve(dir api.File, text string, through bool) (spot, api.Sys) {
	x := standing(dir)
	if strings.HasPrefix(text, "/") {
		x = standing(m.top(api.File{Ino: 1}))
	}
	parts := strings.FieldsFunc(text, func(r rune) bool { return r == '/' })
	for i, part := range parts {
		var e api.Sys
		if x, e = m.step(x, part, through || i < len(parts)-1); e != 0 {
			return spot{}, e
		}
	}
	return x, 0
}

// step takes one part.
func (m *model) step(x spot, part string, through bool) (spot, api.Sys) {
	if !x.exists {
		return spot{}, api.ENOENT
	}
	n := m.node(x.file)
	if n.Kind != api.NodeDir {
		return spot{}, api.ENOTDIR
	}
	if len(part) > 12 {
		return spot{}, api.ENAMETOOLONG
	}
	switch part {
	case ".":
		return standing(x.file), 0
	case "..":
		return standing(m.top(mounts.Up(m.space, x.file))), 0
	}
	if strings.IndexByte(part, 0) >= 0 {
		return spot{}, api.ENOENT
	}
	for _, entry := range n.Entries {
		if entry.Name != part {
			continue
		}
		to := api.File{Dev: x.file.Dev, Ino: entry.Ino}
		if link := m.node(to); link.Kind == api.NodeLink && through {
			if m.followed++; m.followed > 8 {
				return spot{}, api.ELOOP
			}
			return m.resolve(x.file, link.Target, true)
		}
		return spot{dir: x.file, file: m.top(to), name: part, exists: true}, 0
	}
	return spot{dir: x.file, name: part}, 0
}

// top returns what is on top of a node.
func (m *model) top(at api.File) api.File {
	for _, x := range m.space.Mounts {
		if x.On == at {
			return m.top(api.File{Dev: x.Dev, Ino: 1})
		}
	}
	return at
}

func (m *model) node(at api.File) api.Node {
	n, _ := files.Node(m.space.Files, at)
	return n
}
