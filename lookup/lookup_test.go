package lookup_test

import (
	"math"
	"math/rand"
	"slices"
	"strings"
	"testing"

	"kaudit/api"
	"kaudit/files"
	"kaudit/lookup"
	"kaudit/mounts"
	"kaudit/path"
)

func root(dev int) api.File    { return api.File{Dev: dev, Ino: 1} }
func at(dev, ino int) api.File { return api.File{Dev: dev, Ino: ino} }

// Nodes of the plain space.
var (
	dirA, fileF, dirB, fileG, dirC = at(0, 2), at(0, 3), at(0, 4), at(0, 5), at(0, 6)
	dirD, fileH                    = at(1, 2), at(1, 3)
	dirE                           = at(2, 2)
)

// grow makes entries: their directory, their name, and "dir", "file", or the target of a link.
func grow(t *testing.T, f api.Files, list ...[3]any) api.Files {
	t.Helper()
	for _, x := range list {
		n := api.Node{Mode: 493}
		switch text := x[2].(string); text {
		case "dir":
			n.Kind = api.NodeDir
		case "file":
			n.Kind = api.NodeFile
		default:
			n.Kind, n.Target = api.NodeLink, text
		}
		g, _, e := files.Make(f, x[0].(api.File), x[1].(string), n)
		if e != 0 {
			t.Fatalf("%v: %d", x, e)
		}
		f = g
	}
	return f
}

// plain is a space with the directories /a, /a/b and /c, the files /a/f and /a/b/g, and links, with /d and /d/h on device 1, and /e on device 2. Nothing is mounted.
func plain(t *testing.T) api.Space {
	t.Helper()
	f, _ := files.New(3)
	f = grow(t, f, [3]any{root(0), "a", "dir"}, [3]any{dirA, "f", "file"}, [3]any{dirA, "b", "dir"}, [3]any{dirB, "g", "file"}, [3]any{root(0), "c", "dir"},
		[3]any{root(0), "l", "a/f"}, [3]any{root(0), "lb", "/a/b/"}, [3]any{dirC, "up", "../a/.."}, [3]any{root(0), "s", "/"}, [3]any{root(0), "me", "me"}, [3]any{dirB, "x", "../none"}, [3]any{dirC, "ll", "../l/"},
		[3]any{root(1), "d", "dir"}, [3]any{dirD, "h", "file"}, [3]any{root(1), "out", "../a"}, [3]any{root(1), "s", "//"}, [3]any{root(2), "e", "dir"}, [3]any{dirE, "dot", "."}, [3]any{root(2), "l", "e/dot/e"})
	return api.Space{Files: f}
}

// with is the space with these mounts.
func with(s api.Space, list ...api.Mount) api.Space {
	return api.Space{Files: s.Files, Mounts: list}
}

func mount(dev int, on api.File) api.Mount { return api.Mount{Dev: dev, On: on} }

// spaces are the plain space with mounts side by side, one in the other, one on the other, and on the root.
func spaces(t *testing.T) []api.Space {
	s := plain(t)
	return []api.Space{
		s, with(s, mount(1, dirC)), with(s, mount(2, dirA), mount(1, dirC)), with(s, mount(1, dirB), mount(2, dirD)), with(s, mount(2, dirA), mount(1, root(2))),
		with(s, mount(1, root(0))), with(s, mount(2, root(0)), mount(1, dirE)), with(s, mount(1, root(0)), mount(2, root(1))),
	}
}

// places are all nodes of a space, and some that there are not.
func places(s api.Space) []api.File {
	list := []api.File{{}, at(0, 99), at(3, 1), at(-1, 1), at(math.MaxInt, math.MinInt)}
	for dev, d := range s.Files.Devices {
		for _, n := range d.Nodes {
			list = append(list, at(dev, n.Ino))
		}
	}
	return list
}

// The results of a lookup: a directory, an entry that there is, and one that there is not.
func stands(dir api.File, path string) api.Found {
	return api.Found{Dir: dir, File: dir, Exists: true, Path: path}
}

func entry(dir api.File, name string, to api.File, path string) api.Found {
	return api.Found{Dir: dir, Name: name, File: to, Exists: true, Path: path}
}

func missing(dir api.File, name, path string) api.Found {
	return api.Found{Dir: dir, Name: name, Path: path}
}

func slashed(f api.Found) api.Found {
	f.Slash = true
	return f
}

// find is a lookup, and what it shall return.
type find struct {
	space  api.Space
	start  api.File
	p      string
	follow bool
	want   api.Found
	e      api.Sys
}

func check(t *testing.T, list []find) {
	t.Helper()
	for _, x := range list {
		g, e := lookup.Find(x.space, x.start, x.p, x.follow)
		if g != x.want || e != x.e {
			t.Errorf("%v: Find of %q from %v (%v) is %+v, %d instead of %+v, %d", x.space.Mounts, x.p, x.start, x.follow, g, e, x.want, x.e)
		}
	}
}

func failed(s api.Space, start api.File, p string, follow bool, e api.Sys) find {
	return find{s, start, p, follow, api.Found{}, e}
}

func found(s api.Space, start api.File, p string, follow bool, want api.Found) find {
	return find{s, start, p, follow, want, 0}
}

// P7.1

func TestBegin(t *testing.T) {
	s := plain(t)
	side := with(s, mount(1, dirA))
	top := with(s, mount(1, root(0)), mount(2, root(1)))
	check(t, []find{
		found(s, root(0), "a", false, entry(root(0), "a", dirA, "/a")),
		found(s, dirA, "b", false, entry(dirA, "b", dirB, "/a/b")),
		found(s, dirA, "a", false, missing(dirA, "a", "/a/a")),
		found(s, dirA, "/a", false, entry(root(0), "a", dirA, "/a")),
		found(s, dirA, "/b", false, missing(root(0), "b", "/b")),
		found(s, dirA, "//a", false, entry(root(0), "a", dirA, "/a")),
		// A relative path begins in start itself, also where it is covered.
		found(side, dirA, "f", false, entry(dirA, "f", fileF, "/a/f")),
		found(side, dirA, ".", false, stands(dirA, "/a")),
		found(side, root(1), "f", false, missing(root(1), "f", "/a/f")),
		found(side, root(1), "/a", false, entry(root(0), "a", root(1), "/a")),
		found(top, root(0), "a", false, entry(root(0), "a", dirA, "/a")),
		found(top, root(0), "e", false, missing(root(0), "e", "/e")),
		// An absolute path begins on top of the root.
		found(top, root(0), "/e", false, entry(root(2), "e", dirE, "/e")),
		found(top, root(0), "/a", false, missing(root(2), "a", "/a")),
		found(top, root(1), "/", false, slashed(stands(root(2), "/"))),
		// A start that is no directory, or no node.
		failed(s, fileF, "a", false, api.ENOENT),
		failed(s, fileF, ".", false, api.ENOENT),
		failed(s, fileF, "..", true, api.ENOENT),
		failed(s, at(0, 8), "g", true, api.ENOENT), // the link /lb, to a directory
		failed(s, api.File{}, "a", false, api.ENOENT),
		failed(s, at(0, 99), "a", false, api.ENOENT),
		failed(s, at(-1, 1), "a", false, api.ENOENT),
		failed(s, at(3, 1), ".", false, api.ENOENT),
		failed(s, at(math.MaxInt, math.MaxInt), "a", false, api.ENOENT),
		failed(s, at(math.MinInt, math.MinInt), "a", false, api.ENOENT),
		found(s, fileF, "/a", false, entry(root(0), "a", dirA, "/a")),
		found(s, api.File{}, "/", true, slashed(stands(root(0), "/"))),
		found(s, at(math.MinInt, 1), "/c", true, entry(root(0), "c", dirC, "/c")),
		// Empty paths, and long ones.
		failed(s, root(0), "", false, api.ENOENT),
		failed(s, dirA, "", true, api.ENOENT),
		failed(s, fileF, "", false, api.ENOENT),
		failed(s, at(0, 99), "", false, api.ENOENT),
		found(s, dirA, strings.Repeat("/", 128), false, slashed(stands(root(0), "/"))),
		found(s, dirA, strings.Repeat("./", 63)+"/f", false, entry(dirA, "f", fileF, "/a/f")),
		failed(s, dirA, strings.Repeat("/", 129), false, api.ENAMETOOLONG),
		failed(s, dirA, strings.Repeat("./", 64)+"f", false, api.ENAMETOOLONG),
		failed(s, dirA, strings.Repeat("f/", 1000), false, api.ENAMETOOLONG),
		failed(s, fileF, strings.Repeat("./", 64)+"f", false, api.ENAMETOOLONG),
		failed(s, fileF, strings.Repeat("./", 63)+"ff", false, api.ENOENT),
		failed(s, at(0, 99), strings.Repeat("x", 129), false, api.ENAMETOOLONG),
	})
}

// P7.2

func TestPieces(t *testing.T) {
	s := plain(t)
	const twelve = "abcdefghijkl"
	check(t, []find{
		// Where there is no directory, nothing is taken.
		failed(s, dirA, "f/g", false, api.ENOTDIR),
		failed(s, dirA, "f/.", false, api.ENOTDIR),
		failed(s, dirA, "f/..", false, api.ENOTDIR),
		failed(s, dirA, "f/"+twelve+"m", false, api.ENOTDIR),
		failed(s, dirA, "f/\x00", false, api.ENOTDIR),
		failed(s, dirA, "b/g/none/f", true, api.ENOTDIR),
		failed(s, dirA, "../l/x", false, api.ENOTDIR),
		// Long pieces, and pieces that are no names.
		found(s, dirA, twelve, false, missing(dirA, twelve, "/a/"+twelve)),
		failed(s, dirA, twelve+"m", false, api.ENAMETOOLONG),
		failed(s, dirA, twelve+"m/", false, api.ENAMETOOLONG),
		failed(s, dirA, twelve+"m/none/none", false, api.ENAMETOOLONG),
		failed(s, dirA, "./b/../"+twelve+"m", false, api.ENAMETOOLONG),
		failed(s, dirA, ".............", false, api.ENAMETOOLONG),
		failed(s, dirA, twelve+"\x00", false, api.ENAMETOOLONG),
		failed(s, dirA, "none/"+twelve+"m", false, api.ENOENT),
		failed(s, dirA, "\x00", false, api.ENOENT),
		failed(s, dirA, "b/f\x00", true, api.ENOENT),
		failed(s, dirA, "f\x00/g", true, api.ENOENT),
		found(s, dirA, "\xff\n", false, missing(dirA, "\xff\n", "/a/\xff\n")),
		found(s, dirA, "...", false, missing(dirA, "...", "/a/...")),
		// Where the path stays, and goes upwards.
		found(s, dirA, "././b", false, entry(dirA, "b", dirB, "/a/b")),
		found(s, dirA, "b/.", false, stands(dirB, "/a/b")),
		found(s, dirA, "b/..", false, stands(dirA, "/a")),
		found(s, dirB, "../../c", false, entry(root(0), "c", dirC, "/c")),
		found(s, dirB, "../../../..", false, stands(root(0), "/")),
		found(s, dirB, "/..", false, stands(root(0), "/")),
		found(s, dirB, "/../a/../a/b/./g", false, entry(dirB, "g", fileG, "/a/b/g")),
		// Where there is no entry.
		found(s, dirA, "none", true, missing(dirA, "none", "/a/none")),
		found(s, dirA, "b/none", true, missing(dirB, "none", "/a/b/none")),
		found(s, dirA, "none/", true, slashed(missing(dirA, "none", "/a/none"))),
		found(s, dirA, "none//", false, slashed(missing(dirA, "none", "/a/none"))),
		failed(s, dirA, "none/none", true, api.ENOENT),
		failed(s, dirA, "none/.", true, api.ENOENT),
		failed(s, dirA, "none/..", true, api.ENOENT),
		failed(s, dirA, "none/f", true, api.ENOENT),
		// A slash at the end wants a directory.
		found(s, dirA, "b/", false, slashed(entry(dirA, "b", dirB, "/a/b"))),
		found(s, dirA, "b/.//", false, slashed(stands(dirB, "/a/b"))),
		failed(s, dirA, "f/", false, api.ENOTDIR),
		failed(s, dirA, "f/", true, api.ENOTDIR),
		failed(s, dirA, "b/g///", false, api.ENOTDIR),
	})
}

func TestLinks(t *testing.T) {
	s := plain(t)
	l, lb, up, me, x, ll := at(0, 7), at(0, 8), at(0, 9), at(0, 11), at(0, 12), at(0, 13)
	check(t, []find{
		// At the end, with and without follow, and with a slash.
		found(s, dirA, "/l", false, entry(root(0), "l", l, "/l")),
		found(s, dirA, "/l", true, entry(dirA, "f", fileF, "/a/f")),
		failed(s, dirA, "/l/", false, api.ENOTDIR),
		failed(s, dirA, "/l/", true, api.ENOTDIR),
		found(s, dirC, "/lb", false, entry(root(0), "lb", lb, "/lb")),
		found(s, dirC, "/lb", true, entry(dirA, "b", dirB, "/a/b")),
		found(s, dirC, "/lb/", false, slashed(entry(dirA, "b", dirB, "/a/b"))),
		found(s, dirC, "/lb//", true, slashed(entry(dirA, "b", dirB, "/a/b"))),
		// A target that ends with a slash may lead to a file, and does not make the path end with one.
		found(s, dirC, "ll", false, entry(dirC, "ll", ll, "/c/ll")),
		found(s, dirC, "ll", true, entry(dirA, "f", fileF, "/a/f")),
		failed(s, dirC, "ll/", false, api.ENOTDIR),
		failed(s, dirC, "ll/x", false, api.ENOTDIR),
		// In front of other pieces.
		found(s, dirC, "/lb/g", false, entry(dirB, "g", fileG, "/a/b/g")),
		found(s, dirC, "/lb/none", false, missing(dirB, "none", "/a/b/none")),
		found(s, dirC, "/lb/..", false, stands(dirA, "/a")),
		found(s, dirC, "/lb/.", false, stands(dirB, "/a/b")),
		failed(s, dirC, "up/up/l", false, api.ENOENT),
		found(s, dirC, "up/c/up/lb/g", false, entry(dirB, "g", fileG, "/a/b/g")),
		found(s, dirA, "/lb/x", false, entry(dirB, "x", x, "/a/b/x")),
		// Targets that end with "..", or have no pieces.
		found(s, dirC, "up", false, entry(dirC, "up", up, "/c/up")),
		found(s, dirC, "up", true, stands(root(0), "/")),
		found(s, dirC, "up/", false, slashed(stands(root(0), "/"))),
		found(s, dirC, "/s", true, stands(root(0), "/")),
		found(s, dirC, "/s/", false, slashed(stands(root(0), "/"))),
		found(s, dirC, "/s/a/../s", true, stands(root(0), "/")),
		found(s, dirC, "/s/l", false, entry(root(0), "l", l, "/l")),
		found(s, dirC, "/s/none", false, missing(root(0), "none", "/none")),
		// Targets that there are not.
		found(s, dirB, "x", false, entry(dirB, "x", x, "/a/b/x")),
		found(s, dirB, "x", true, missing(dirA, "none", "/a/none")),
		found(s, dirB, "x/", false, slashed(missing(dirA, "none", "/a/none"))),
		failed(s, dirB, "x/.", false, api.ENOENT),
		failed(s, dirB, "x/none", false, api.ENOENT),
		// A link to itself.
		found(s, dirB, "/me", false, entry(root(0), "me", me, "/me")),
		failed(s, dirB, "/me", true, api.ELOOP),
		failed(s, dirB, "/me/", false, api.ELOOP),
		failed(s, dirB, "/me/a", false, api.ELOOP),
		failed(s, dirB, "/s/../me/none/none", false, api.ELOOP),
	})
}

// TestTargets follows links whose targets are at the limits.
func TestTargets(t *testing.T) {
	f, _ := files.New(1)
	long := strings.Repeat("./", 63) + "/f"
	f = grow(t, f, [3]any{root(0), "d", "dir"}, [3]any{root(0), "f", "file"}, [3]any{root(0), "long", long}, [3]any{root(0), "name", "abcdefghijklm"}, [3]any{root(0), "last", "/d/../abcdefghijkl"},
		[3]any{root(0), "dots", "d/.."}, [3]any{root(0), "dot", "d/."}, [3]any{at(0, 2), "f", "../dot/../f/"}, [3]any{at(0, 2), "through", "/f/x"}, [3]any{at(0, 2), "slashes", strings.Repeat("/", 128)})
	s, d := api.Space{Files: f}, at(0, 2)
	check(t, []find{
		found(s, root(0), "long", true, entry(root(0), "f", at(0, 3), "/f")),
		found(s, root(0), "/"+strings.Repeat("./", 61)+"/long", true, entry(root(0), "f", at(0, 3), "/f")), // more than 128 bytes, with the target
		failed(s, root(0), "long/", true, api.ENOTDIR),
		failed(s, root(0), "name", true, api.ENAMETOOLONG),
		failed(s, root(0), "name/x", false, api.ENAMETOOLONG),
		found(s, root(0), "last", true, missing(root(0), "abcdefghijkl", "/abcdefghijkl")),
		found(s, d, "../dots", true, stands(root(0), "/")),
		found(s, d, "/dots/d", false, entry(root(0), "d", d, "/d")),
		found(s, root(0), "dot", true, stands(d, "/d")),
		found(s, root(0), "dot/f", false, entry(d, "f", at(0, 9), "/d/f")),
		found(s, root(0), "dot/f", true, entry(root(0), "f", at(0, 3), "/f")),
		failed(s, root(0), "dot/f/", true, api.ENOTDIR),
		failed(s, d, "through", true, api.ENOTDIR),
		found(s, d, "slashes", true, stands(root(0), "/")),
		found(s, d, "slashes/d/slashes/f", true, entry(root(0), "f", at(0, 3), "/f")),
	})
}

// TestLoops counts the links that are followed: eight in a row, and eight one after the other.
func TestLoops(t *testing.T) {
	f, _ := files.New(1)
	f = grow(t, f, [3]any{root(0), "l0", "file"}, [3]any{root(0), "here", "."})
	for i := 1; i <= 9; i++ {
		f = grow(t, f, [3]any{root(0), "l" + string(rune('0'+i)), "l" + string(rune('0'+i-1))})
	}
	s := api.Space{Files: f}
	end := entry(root(0), "l0", at(0, 2), "/l0")
	check(t, []find{
		found(s, root(0), "l8", true, end),
		failed(s, root(0), "l9", true, api.ELOOP),
		found(s, root(0), "l9", false, entry(root(0), "l9", at(0, 12), "/l9")),
		failed(s, root(0), "l9/", false, api.ELOOP),
		failed(s, root(0), "l8/", false, api.ENOTDIR),
		found(s, root(0), "here/l7", true, end),
		failed(s, root(0), "here/l8", true, api.ELOOP),
		found(s, root(0), "here/l8", false, entry(root(0), "l8", at(0, 11), "/l8")),
		found(s, root(0), strings.Repeat("here/", 8)+"l0", true, end),
		found(s, root(0), strings.Repeat("here/", 8)+"l1", false, entry(root(0), "l1", at(0, 4), "/l1")),
		failed(s, root(0), strings.Repeat("here/", 8)+"l1", true, api.ELOOP),
		found(s, root(0), strings.Repeat("here/", 8)+"here", false, entry(root(0), "here", at(0, 3), "/here")),
		failed(s, root(0), strings.Repeat("here/", 9), false, api.ELOOP),
		failed(s, root(0), strings.Repeat("here/", 9)+"none/none", false, api.ELOOP),
		failed(s, root(0), strings.Repeat("here/", 8)+"none/none", false, api.ENOENT),
		found(s, root(0), strings.Repeat("here/", 8), false, slashed(stands(root(0), "/"))),
	})
}

func TestMounts(t *testing.T) {
	s := plain(t)
	deep := with(s, mount(1, dirB), mount(2, dirD))
	stack := with(s, mount(2, dirC), mount(1, root(2)))
	top := with(s, mount(2, root(0)), mount(1, dirE))
	check(t, []find{
		// Down, to what is mounted.
		found(deep, dirC, "/a/b", false, entry(dirA, "b", root(1), "/a/b")),
		found(deep, dirC, "/a/b/g", false, missing(root(1), "g", "/a/b/g")),
		found(deep, dirC, "/a/b/d", false, entry(root(1), "d", root(2), "/a/b/d")),
		found(deep, dirC, "/a/b/d/e", false, entry(root(2), "e", dirE, "/a/b/d/e")),
		found(deep, dirC, "/lb/d/", false, slashed(entry(root(1), "d", root(2), "/a/b/d"))),
		found(stack, dirA, "/c", true, entry(root(0), "c", root(1), "/c")),
		found(stack, dirA, "/c/d/h", true, entry(dirD, "h", fileH, "/c/d/h")),
		found(stack, dirA, "../c/e", true, missing(root(1), "e", "/c/e")),
		// Up, to what it is mounted on.
		found(deep, dirE, "..", false, stands(root(2), "/a/b/d")),
		found(deep, dirE, "../..", false, stands(root(1), "/a/b")),
		found(deep, dirE, "../../..", false, stands(dirA, "/a")),
		found(deep, dirE, "../../../../c", false, entry(root(0), "c", dirC, "/c")),
		found(stack, root(1), "..", false, stands(root(0), "/")),
		found(stack, root(2), "..", false, stands(root(0), "/")),
		found(stack, root(2), ".", false, stands(root(2), "/c")),
		found(stack, dirE, "..", false, stands(root(1), "/c")), // up to the root of device 2, and down to what is mounted on it
		found(stack, dirC, "..", false, stands(root(0), "/")),
		found(top, dirE, "..", false, stands(root(2), "/")),
		found(top, root(1), "..", false, stands(root(2), "/")),
		found(top, root(2), "..", false, stands(root(2), "/")),
		found(top, dirA, "..", false, stands(root(2), "/")),
		found(top, dirB, "..", false, stands(dirA, "/a")),
		found(top, fileF, "/..", false, stands(root(2), "/")),
		// Links across devices.
		found(deep, dirC, "/a/b/out", false, entry(root(1), "out", at(1, 4), "/a/b/out")),
		found(deep, dirC, "/a/b/out", true, missing(dirA, "a", "/a/a")),
		found(stack, dirA, "/c/out", true, entry(root(0), "a", dirA, "/a")),
		found(top, dirA, "/e/s", true, stands(root(2), "/")),
		found(top, dirA, "/e/s/e", true, entry(root(2), "e", root(1), "/e")),
		failed(top, dirA, "../s/l", true, api.ENOENT),
		found(top, root(0), "s", true, stands(root(2), "/")),
		failed(top, dirA, "/l", true, api.ENOENT),
	})
}

// P7.3

func TestFound(t *testing.T) {
	s := plain(t)
	deep := with(s, mount(1, dirB), mount(2, dirD))
	check(t, []find{
		found(s, dirA, "f", false, entry(dirA, "f", fileF, "/a/f")),
		found(s, root(0), "/", false, slashed(stands(root(0), "/"))),
		found(s, root(0), "///", true, slashed(stands(root(0), "/"))),
		found(s, dirB, "./", false, slashed(stands(dirB, "/a/b"))),
		found(s, dirB, "../", false, slashed(stands(dirA, "/a"))),
		found(s, dirB, "/.", false, stands(root(0), "/")),
		found(s, root(0), "x", false, missing(root(0), "x", "/x")),
		// Where there is no path: devices that are not mounted.
		found(s, root(1), ".", false, stands(root(1), "")),
		found(s, root(1), "..", false, stands(root(1), "")),
		found(s, root(1), "d", false, entry(root(1), "d", dirD, "")),
		found(s, dirD, "h", false, entry(dirD, "h", fileH, "")),
		found(s, dirD, "none", false, missing(dirD, "none", "")),
		found(s, dirD, "../none/", false, slashed(missing(root(1), "none", ""))),
		found(s, dirD, "/none", false, missing(root(0), "none", "/none")),
		found(s, dirD, "../s", true, stands(root(0), "/")),
		found(s, dirE, "dot/../l", false, entry(root(2), "l", at(2, 4), "")),
		// Paths of covered directories, from within.
		found(deep, dirB, ".", false, stands(dirB, "/a/b")),
		found(deep, dirB, "g", false, entry(dirB, "g", fileG, "/a/b/g")),
		found(deep, dirD, "h", true, entry(dirD, "h", fileH, "/a/b/d/h")),
		found(deep, dirD, "..", true, stands(root(1), "/a/b")),
	})
}

// TestLongPaths looks for what has a path of more than 128 bytes.
func TestLongPaths(t *testing.T) {
	f, _ := files.New(1)
	dir, where := root(0), ""
	for i := range 10 {
		f = grow(t, f, [3]any{dir, "abcdefghijkl", "dir"})
		dir, where = at(0, i+2), where+"/abcdefghijkl"
	}
	s := api.Space{Files: grow(t, f, [3]any{dir, "f", "file"})}
	name := "abcdefghijkl"
	check(t, []find{
		found(s, dir, "f", false, entry(dir, "f", at(0, 12), where+"/f")), // 132 bytes
		found(s, dir, name, false, missing(dir, name, where+"/"+name)),
		found(s, dir, ".", false, stands(dir, where)),
		failed(s, dir, where+"/f", false, api.ENAMETOOLONG),
		failed(s, dir, where, false, api.ENAMETOOLONG),
		found(s, dir, "../../"+name+"/"+name+"/f", false, entry(dir, "f", at(0, 12), where+"/f")),
	})
}

// P7.1, P7.2, P7.3

// TestAllPaths compares the lookups of short paths, from everywhere, with those of the model.
func TestAllPaths(t *testing.T) {
	pieces := []string{".", "..", "a", "b", "c", "d", "e", "f", "h", "l", "lb", "up", "s", "me", "x", "out", "dot", "none", "abcdefghijklm", "\x00"}
	var paths []string
	for _, p := range pieces {
		paths = append(paths, p, p+"/", "/"+p, "//"+p+"//")
		for _, q := range pieces {
			paths = append(paths, p+"/"+q, p+"//"+q+"/", "/"+p+"/"+q, "/"+p+"/"+q+"/")
		}
	}
	for i, s := range spaces(t) {
		for j, start := range places(s) {
			for k, p := range paths {
				if (i+j+k)%3 == 0 {
					compare(t, s, start, p, k%2 == 0)
					compare(t, s, start, p, k%2 != 0)
				}
			}
		}
	}
}

// compare compares a lookup with that of the model.
func compare(t *testing.T, s api.Space, start api.File, p string, follow bool) {
	t.Helper()
	got, e := lookup.Find(s, start, p, follow)
	want, e2 := findByModel(s, start, p, follow)
	if got != want || e != e2 {
		t.Fatalf("%v: Find of %q from %v (%v) is %+v, %d instead of %+v, %d", s.Mounts, p, start, follow, got, e, want, e2)
	}
}

// anyText is a text of a few pieces.
func anyText(r *rand.Rand) string {
	names := []string{"a", "a", "b", "b", "c", "a", "b", ".", "..", "..", "none", "\x01", "abcdefghijkl", "abcdefghijklm"}
	text := strings.Repeat("/", r.Intn(3)/2)
	for range 1 + r.Intn(4) {
		text += names[r.Intn(len(names))] + strings.Repeat("/", 1+r.Intn(6)/5)
	}
	if r.Intn(4) > 0 {
		text = strings.TrimRight(text, "/")
	}
	return text
}

// anySpace is a valid space with few names and many links.
func anySpace(r *rand.Rand) api.Space {
	f, _ := files.New(1 + r.Intn(3))
	anyDir := func() api.File { return at(r.Intn(len(f.Devices)), 1+r.Intn(6)) }
	for range 30 {
		n := api.Node{Kind: 1 + r.Intn(3)}
		if n.Kind == api.NodeLink {
			n.Target = anyText(r)
		}
		if g, _, e := files.Make(f, anyDir(), []string{"a", "b", "c"}[r.Intn(3)], n); e == 0 {
			f = g
		}
	}
	s := api.Space{Files: f}
	for range 3 {
		if g, e := mounts.Add(s, 1+r.Intn(2), anyDir()); e == 0 {
			s = g
		}
	}
	return s
}

func TestAnyPaths(t *testing.T) {
	r := rand.New(rand.NewSource(7))
	for range 400 {
		s := anySpace(r)
		if !mounts.Valid(s) {
			t.Fatalf("%v is not valid", s)
		}
		for range 60 {
			compare(t, s, at(r.Intn(len(s.Files.Devices)), 1+r.Intn(4)), anyText(r), r.Intn(2) == 0)
		}
	}
}

// P7.4

// lead checks that the path of what was found leads there again, from everywhere.
func lead(t *testing.T, s api.Space, first api.Found) {
	t.Helper()
	if !mounts.Visible(s, first.Dir) || len(first.Path) > 128 {
		return
	}
	if !path.Clean(first.Path) {
		t.Fatalf("%v: the path of %v is %q", s.Mounts, first.Dir, first.Path)
	}
	for _, start := range places(s) {
		again, e := lookup.Find(s, start, first.Path, false)
		if e != 0 || again.File != first.File || again.Exists != first.Exists || again.Path != first.Path {
			t.Fatalf("%v: %+v leads from %v to %+v, %d", s.Mounts, first, start, again, e)
		}
		if first.Name != "" && (again.Dir != first.Dir || again.Name != first.Name) {
			t.Fatalf("%v: %+v leads from %v to %+v", s.Mounts, first, start, again)
		}
	}
}

func TestPathsLeadBack(t *testing.T) {
	r := rand.New(rand.NewSource(8))
	for range 150 {
		s := anySpace(r)
		for range 20 {
			p, follow := anyText(r), r.Intn(2) == 0
			for _, start := range places(s)[:8] {
				first, e := lookup.Find(s, start, p, follow)
				if e == 0 {
					lead(t, s, first)
				}
				if again, e2 := lookup.Find(s, root(0), p, follow); strings.HasPrefix(p, "/") && (again != first || e2 != e) {
					t.Fatalf("%v: %q leads from %v to %+v, %d, and from the root to %+v, %d", s.Mounts, p, start, first, e, again, e2)
				}
			}
		}
	}
}

// TestEveryDirectoryLeadsBack looks in every directory of all spaces for all that is there, and for what is not.
func TestEveryDirectoryLeadsBack(t *testing.T) {
	count := 0
	for _, s := range spaces(t) {
		for _, start := range places(s) {
			n, _ := files.Node(s.Files, start)
			if n.Kind != api.NodeDir {
				continue
			}
			names := []string{".", "..", "none", "s/none"}
			for _, e := range n.Entries {
				names = append(names, e.Name)
			}
			for _, name := range names {
				if first, e := lookup.Find(s, start, name, false); e == 0 {
					lead(t, s, first)
					count++
				}
			}
		}
	}
	if count < 300 {
		t.Errorf("only %d lookups", count)
	}
}

func TestExample(t *testing.T) {
	s := plain(t)
	l := at(0, 7)
	check(t, []find{
		found(s, root(0), "/l", true, entry(dirA, "f", fileF, "/a/f")),
		found(s, root(0), "/l", false, entry(root(0), "l", l, "/l")),
		failed(s, root(0), "/l/", false, api.ENOTDIR),
		found(s, root(0), "/a/g", false, missing(dirA, "g", "/a/g")),
		failed(s, root(0), "/b/g", false, api.ENOENT),
		failed(s, root(0), "/a/f/.", false, api.ENOTDIR),
	})
}

// R1, R2

// roomy copies a space, with room behind each list that is filled with marks.
func roomy(s api.Space) api.Space {
	g := api.Space{Mounts: append(slices.Clone(s.Mounts), api.Mount{Dev: 77})[:len(s.Mounts)]}
	for _, d := range s.Files.Devices {
		nodes := slices.Clone(d.Nodes)
		for i, n := range nodes {
			nodes[i].Entries = append(slices.Clone(n.Entries), api.Entry{Name: "mark"})[:len(n.Entries)]
		}
		d.Nodes = append(nodes, api.Node{Ino: 77})[:len(d.Nodes)]
		g.Files.Devices = append(g.Files.Devices, d)
	}
	return g
}

// equalRoom reports whether two spaces are equal, and also the marks behind their lists.
func equalRoom(a, b api.Space) bool {
	if len(a.Mounts) != len(b.Mounts) || !slices.Equal(a.Mounts[:len(a.Mounts)+1], b.Mounts[:len(b.Mounts)+1]) {
		return false
	}
	return slices.EqualFunc(a.Files.Devices, b.Files.Devices, func(a, b api.Device) bool {
		return a.Next == b.Next && len(a.Nodes) == len(b.Nodes) && slices.EqualFunc(a.Nodes[:len(a.Nodes)+1], b.Nodes[:len(b.Nodes)+1], func(a, b api.Node) bool {
			if a.Ino == 77 || b.Ino == 77 {
				return a.Ino == b.Ino
			}
			entries := len(a.Entries) == len(b.Entries) && slices.Equal(a.Entries[:len(a.Entries)+1], b.Entries[:len(b.Entries)+1])
			return entries && a.Ino == b.Ino && a.Kind == b.Kind && a.Mode == b.Mode && a.UID == b.UID && a.GID == b.GID && a.Parent == b.Parent && a.Target == b.Target
		})
	})
}

func TestMemory(t *testing.T) {
	for _, s := range spaces(t) {
		used, kept := roomy(s), roomy(s)
		for _, p := range []string{"/", "a/f", "/l", "/me", "/s/a/../c/up/./lb/g", "/a/b/x", "none", "none/", "x\x00", "/c/d/h", "/e/dot"} {
			for _, start := range places(s) {
				lookup.Find(used, start, p, true)
				lookup.Find(used, start, p, false)
			}
		}
		if !equalRoom(used, kept) {
			t.Errorf("%v: the space is changed", s.Mounts)
		}
	}
}

// TestCircles asks spaces whose mounts, parents or links lead in a circle, or nowhere.
func TestCircles(t *testing.T) {
	s := plain(t)
	spoilt := plain(t)
	for i := range spoilt.Files.Devices[0].Nodes {
		n := &spoilt.Files.Devices[0].Nodes[i]
		if n.Parent != 0 {
			n.Parent = 4
		}
		if n.Kind == api.NodeLink {
			n.Target = []string{"", "//", strings.Repeat("../", 1000) + "l", "l/l/l/l/l/l/l/l/l"}[i%4]
		}
	}
	spoilt.Files.Devices[0].Nodes[3].Entries = []api.Entry{{Name: "a", Ino: 4}, {Name: "", Ino: -1}, {Name: "..", Ino: math.MaxInt}}
	for _, x := range []api.Space{
		{}, {Mounts: []api.Mount{{}}}, with(s, api.Mount{}), spoilt, with(spoilt, mount(1, dirB), mount(0, dirD)),
		with(s, mount(0, root(0))), with(s, mount(1, root(1))), with(s, mount(1, dirD)), with(s, mount(9, dirA)), with(s, mount(-1, root(0))),
		with(s, mount(1, root(2)), mount(2, root(1))), with(s, mount(1, dirE), mount(2, dirD)), with(s, mount(1, root(2)), mount(2, root(0)), mount(0, root(1))),
	} {
		for _, start := range append(places(x), root(0), dirA, dirB) {
			for _, p := range []string{"", "/", ".", "..", "../..", "/l", "l/", "a/a/a/a", "/a/b/../../..", "/lb/x", "/me", "/a/", "/s", "..//"} {
				lookup.Find(x, start, p, true)
				lookup.Find(x, start, p, false)
			}
		}
	}
}

// TestAnySpace asks spaces that are hardly ever valid.
func TestAnySpace(t *testing.T) {
	r := rand.New(rand.NewSource(9))
	numbers := []int{0, 1, 1, 1, 2, 2, 3, 3, -1, api.MaxIno, math.MaxInt, math.MinInt}
	number := func() int { return numbers[r.Intn(len(numbers))] }
	file := func() api.File { return at(r.Intn(4)-r.Intn(2), number()) }
	for range 10000 {
		var s api.Space
		for range r.Intn(4) {
			d := api.Device{Next: number()}
			for range r.Intn(5) {
				n := api.Node{Ino: number(), Kind: r.Intn(5), Mode: number(), Parent: number(), Target: anyText(r)}
				for range r.Intn(3) {
					n.Entries = append(n.Entries, api.Entry{Name: []string{"", "a", "b", "/", ".."}[r.Intn(5)], Ino: number()})
				}
				d.Nodes = append(d.Nodes, n)
			}
			s.Files.Devices = append(s.Files.Devices, d)
		}
		for range r.Intn(4) {
			s.Mounts = append(s.Mounts, mount(number(), file()))
		}
		used, kept := roomy(s), roomy(s)
		f, e := lookup.Find(used, file(), anyText(r), r.Intn(2) == 0)
		if !equalRoom(used, kept) {
			t.Fatalf("%v is changed", kept)
		}
		if e != 0 && f != (api.Found{}) {
			t.Fatalf("%+v beside the error %d", f, e)
		}
	}
}
