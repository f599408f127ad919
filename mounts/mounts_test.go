package mounts_test

import (
	"math"
	"math/rand"
	"slices"
	"strings"
	"testing"

	"kaudit/api"
	"kaudit/files"
	"kaudit/mounts"
)

func root(dev int) api.File    { return api.File{Dev: dev, Ino: 1} }
func at(dev, ino int) api.File { return api.File{Dev: dev, Ino: ino} }

// makeNode makes a node that is a directory, a file, or a link.
func makeNode(t *testing.T, f api.Files, dir api.File, name string, kind int) api.Files {
	t.Helper()
	n := api.Node{Kind: kind, Mode: 493}
	if kind == api.NodeLink {
		n.Target = "/a"
	}
	g, _, e := files.Make(f, dir, name, n)
	if e != 0 {
		t.Fatalf("%q in %v: %d", name, dir, e)
	}
	return g
}

// plain is a space without mounts, with the directories /a (2), /a/b (3) and /c (4), the file /f (5) and the link /l (6) on device 0, /d (2) and /d/e (3) on device 1, and /a (2) on device 2.
func plain(t *testing.T) api.Space {
	t.Helper()
	f, _ := files.New(3)
	f = makeNode(t, f, root(0), "a", api.NodeDir)
	f = makeNode(t, f, at(0, 2), "b", api.NodeDir)
	f = makeNode(t, f, root(0), "c", api.NodeDir)
	f = makeNode(t, f, root(0), "f", api.NodeFile)
	f = makeNode(t, f, root(0), "l", api.NodeLink)
	f = makeNode(t, f, root(1), "d", api.NodeDir)
	f = makeNode(t, f, at(1, 2), "e", api.NodeDir)
	f = makeNode(t, f, root(2), "a", api.NodeDir)
	return api.Space{Files: f}
}

// with is a space with these mounts.
func with(s api.Space, mounts ...api.Mount) api.Space {
	return api.Space{Files: s.Files, Mounts: mounts}
}

func mount(dev int, on api.File) api.Mount { return api.Mount{Dev: dev, On: on} }

// places are all nodes of a space, and some that there are not.
func places(s api.Space) []api.File {
	list := []api.File{{}, at(0, 9), at(1, 0), at(3, 1), at(-1, 1), at(0, -1), at(math.MaxInt, 1), at(math.MinInt, math.MinInt), at(2, math.MaxInt)}
	for dev, d := range s.Files.Devices {
		for _, n := range d.Nodes {
			list = append(list, at(dev, n.Ino))
		}
	}
	return list
}

// spaces are all valid spaces with the files of s.
func spaces(s api.Space) []api.Space {
	list := []api.Space{with(s)}
	for i := 0; i < len(list); i++ {
		for dev := 1; dev < len(s.Files.Devices); dev++ {
			for _, on := range places(s) {
				more := append(slices.Clone(list[i].Mounts), mount(dev, on))
				if validMounts(with(s, more...)) {
					list = append(list, with(s, more...))
				}
			}
		}
	}
	return list
}

func equalFiles(a, b api.Files) bool {
	return slices.EqualFunc(a.Devices, b.Devices, func(a, b api.Device) bool {
		return a.Next == b.Next && slices.EqualFunc(a.Nodes, b.Nodes, func(a, b api.Node) bool {
			entries := slices.Equal(a.Entries, b.Entries)
			return entries && a.Ino == b.Ino && a.Kind == b.Kind && a.Mode == b.Mode && a.UID == b.UID && a.GID == b.GID && a.Parent == b.Parent && a.Target == b.Target
		})
	})
}

func equalSpaces(a, b api.Space) bool {
	return equalFiles(a.Files, b.Files) && slices.Equal(a.Mounts, b.Mounts)
}

func isZero(s api.Space) bool { return s.Files.Devices == nil && s.Mounts == nil }

// P6.1

func TestValid(t *testing.T) {
	s := plain(t)
	for i, x := range []struct {
		space api.Space
		want  bool
	}{
		{s, true},
		{with(s, []api.Mount{}...), true},
		{with(s, mount(1, root(0))), true},
		{with(s, mount(2, at(0, 4))), true},
		{with(s, mount(1, at(0, 2)), mount(2, at(0, 3))), true},
		{with(s, mount(1, at(0, 2)), mount(2, at(1, 3))), true},
		{with(s, mount(2, at(0, 2)), mount(1, root(2))), true},
		{api.Space{}, false},
		{api.Space{Mounts: []api.Mount{mount(1, root(0))}}, false},
		{with(s, mount(0, at(0, 2))), false},
		{with(s, mount(3, at(0, 2))), false},
		{with(s, mount(-1, at(0, 2))), false},
		{with(s, mount(math.MaxInt, at(0, 2))), false},
		{with(s, mount(math.MinInt, at(0, 2))), false},
		{with(s, mount(1, at(0, 5))), false}, // a file
		{with(s, mount(1, at(0, 6))), false}, // a link
		{with(s, mount(1, at(0, 7))), false},
		{with(s, mount(1, api.File{})), false},
		{with(s, mount(1, at(-1, 1))), false},
		{with(s, mount(1, at(3, 1))), false},
		{with(s, mount(1, root(1))), false},                                   // itself
		{with(s, mount(1, root(2))), false},                                   // on a device that is not mounted
		{with(s, mount(1, root(2)), mount(2, root(0))), false},                // on one that stands behind it
		{with(s, mount(1, root(2)), mount(2, root(1))), false},                // a circle
		{with(s, mount(1, at(0, 2)), mount(1, at(0, 3))), false},              // a device twice
		{with(s, mount(1, at(0, 2)), mount(2, at(0, 2))), false},              // a directory twice
		{with(s, mount(1, at(0, 2)), mount(2, at(1, 4))), false},              // no node
		{with(s, mount(1, at(0, 2)), mount(2, root(2))), false},               // itself
		{with(s, mount(1, at(0, 2)), mount(0, at(1, 2))), false},              // device 0
		{with(s, mount(1, at(0, 2)), mount(2, at(0, 3)), api.Mount{}), false}, // one more
	} {
		if got := mounts.Valid(x.space); got != x.want {
			t.Errorf("%d: %v", i, got)
		}
	}
	spoilt := plain(t)
	spoilt.Files.Devices[2].Nodes[0].Mode = 512
	if mounts.Valid(spoilt) || mounts.Valid(with(spoilt, mount(1, at(0, 2)))) {
		t.Error("a space with files that are not valid is valid")
	}
	few := plain(t)
	few.Files.Devices = few.Files.Devices[:2]
	if !mounts.Valid(with(few, mount(1, at(0, 2)))) || mounts.Valid(with(few, mount(2, at(0, 2)))) {
		t.Error("the number of devices")
	}
}

// TestValidMounts looks at all lists of up to two mounts, and at many longer ones.
func TestValidMounts(t *testing.T) {
	s := plain(t)
	var all []api.Mount
	for dev := -1; dev <= 3; dev++ {
		for _, on := range places(s) {
			all = append(all, mount(dev, on))
		}
	}
	check := func(list ...api.Mount) {
		x := with(s, list...)
		if mounts.Valid(x) != validMounts(x) {
			t.Fatalf("%v: %v", list, mounts.Valid(x))
		}
	}
	r := rand.New(rand.NewSource(1))
	for _, x := range all {
		check(x)
		for _, y := range all {
			check(x, y)
			check(x, y, all[r.Intn(len(all))])
		}
	}
}

func TestMountedAndCovered(t *testing.T) {
	list := spaces(plain(t))
	if len(list) < 50 {
		t.Fatalf("only %d spaces", len(list))
	}
	for _, s := range list {
		if !mounts.Valid(s) {
			t.Fatalf("not valid: %v", s.Mounts)
		}
		for _, dev := range []int{math.MinInt, -1, 0, 1, 2, 3, math.MaxInt} {
			want := dev == 0
			for _, m := range s.Mounts {
				want = want || m.Dev == dev
			}
			if mounts.Mounted(s, dev) != want {
				t.Errorf("%v: Mounted of %d is %v", s.Mounts, dev, !want)
			}
		}
		for _, x := range places(s) {
			want := false
			for _, m := range s.Mounts {
				want = want || m.On == x
			}
			if mounts.Covered(s, x) != want {
				t.Errorf("%v: Covered of %v is %v", s.Mounts, x, !want)
			}
		}
	}
}

// P6.2

func TestAddErrors(t *testing.T) {
	s := plain(t)
	one := with(s, mount(1, at(0, 2)))
	two := with(s, mount(1, at(0, 2)), mount(2, at(1, 2)))
	for i, x := range []struct {
		space api.Space
		dev   int
		on    api.File
		want  api.Sys
	}{
		// The numbers of devices, before all else.
		{s, 0, at(0, 2), api.EINVAL},
		{s, -1, at(0, 2), api.EINVAL},
		{s, 3, at(0, 2), api.EINVAL},
		{s, math.MaxInt, at(0, 2), api.EINVAL},
		{s, math.MinInt, at(0, 2), api.EINVAL},
		{s, 0, at(0, 9), api.EINVAL},
		{s, 3, at(0, 5), api.EINVAL},
		{one, 0, at(0, 2), api.EINVAL},
		// What it is mounted on.
		{s, 1, at(0, 9), api.ENOENT},
		{s, 1, at(1, 9), api.ENOENT},
		{s, 1, at(2, 9), api.ENOENT},
		{s, 1, at(3, 1), api.ENOENT},
		{s, 1, at(-1, 1), api.ENOENT},
		{one, 1, api.File{}, api.ENOENT},
		{s, 1, at(0, 5), api.ENOTDIR},
		{one, 1, at(0, 6), api.ENOTDIR},
		// Its device.
		{s, 1, root(2), api.EINVAL},
		{one, 1, at(2, 2), api.EINVAL},
		{s, 1, root(1), api.EINVAL},
		{s, 2, at(2, 2), api.EINVAL},
		{one, 1, root(1), api.EINVAL},
		{one, 1, at(1, 2), api.EINVAL},
		{two, 2, at(2, 2), api.EINVAL},
		// Busy ones.
		{one, 1, at(0, 3), api.EBUSY},
		{one, 1, root(0), api.EBUSY},
		{one, 2, at(0, 2), api.EBUSY},
		{one, 1, at(0, 2), api.EBUSY},
		{two, 1, at(2, 2), api.EBUSY},
		{two, 2, at(1, 3), api.EBUSY},
	} {
		if g, e := mounts.Add(x.space, x.dev, x.on); e != x.want || !isZero(g) {
			t.Errorf("%d: Add of %d on %v: %d instead of %d", i, x.dev, x.on, e, x.want)
		}
	}
}

// TestAdd adds every device everywhere, in all valid spaces: what is not refused is valid, and what would be valid is not refused.
func TestAdd(t *testing.T) {
	for _, s := range spaces(plain(t)) {
		for dev := range 3 {
			for _, on := range places(s) {
				want := with(s, append(slices.Clone(s.Mounts), mount(dev, on))...)
				g, e := mounts.Add(s, dev, on)
				if (e == 0) != validMounts(want) || e == 0 && !equalSpaces(g, want) || e != 0 && !isZero(g) {
					t.Fatalf("Add of %d on %v with %v: %v, %d", dev, on, s.Mounts, g.Mounts, e)
				}
			}
		}
	}
}

func TestRemove(t *testing.T) {
	s := plain(t)
	one := with(s, mount(2, at(0, 4)))
	two := with(s, mount(1, at(0, 2)), mount(2, at(1, 2)))
	side := with(s, mount(1, at(0, 2)), mount(2, at(0, 3)))
	for i, x := range []struct {
		space api.Space
		dev   int
		want  api.Sys
		left  []api.Mount
	}{
		{s, 0, api.EINVAL, nil},
		{s, 1, api.EINVAL, nil},
		{one, 1, api.EINVAL, nil},
		{one, 3, api.EINVAL, nil},
		{one, -1, api.EINVAL, nil},
		{one, math.MaxInt, api.EINVAL, nil},
		{one, math.MinInt, api.EINVAL, nil},
		{one, 0, api.EINVAL, nil}, // although a device is mounted on device 0
		{two, 1, api.EBUSY, nil},
		{with(s, mount(2, root(0)), mount(1, root(2))), 2, api.EBUSY, nil},
		{one, 2, 0, nil},
		{two, 2, 0, []api.Mount{mount(1, at(0, 2))}},
		{side, 1, 0, []api.Mount{mount(2, at(0, 3))}},
		{side, 2, 0, []api.Mount{mount(1, at(0, 2))}},
	} {
		g, e := mounts.Remove(x.space, x.dev)
		if e != x.want || !slices.Equal(g.Mounts, x.left) || e != 0 && !isZero(g) {
			t.Errorf("%d: %v, %d", i, g.Mounts, e)
		}
		if e == 0 && !equalFiles(g.Files, s.Files) {
			t.Errorf("%d: the files are changed", i)
		}
	}
}

// TestRemoveEach removes every device from all valid spaces.
func TestRemoveEach(t *testing.T) {
	for _, s := range spaces(plain(t)) {
		for dev := range 3 {
			left := slices.DeleteFunc(slices.Clone(s.Mounts), func(m api.Mount) bool { return m.Dev == dev })
			g, e := mounts.Remove(s, dev)
			if len(left) == len(s.Mounts) {
				if e != api.EINVAL {
					t.Fatalf("%v: Remove of %d: %d", s.Mounts, dev, e)
				}
				continue
			}
			if (e == 0) != validMounts(with(s, left...)) || e == 0 && !equalSpaces(g, with(s, left...)) || e != 0 && (e != api.EBUSY || !isZero(g)) {
				t.Fatalf("%v: Remove of %d: %v, %d", s.Mounts, dev, g.Mounts, e)
			}
		}
	}
}

// P6.3, P6.4, P6.5

// TestWalks compares all walks, in all valid spaces, with those of the model.
func TestWalks(t *testing.T) {
	for _, s := range spaces(plain(t)) {
		m := modelOf(s)
		for _, x := range places(s) {
			if got, want := mounts.Down(s, x), m.top(x); got != want {
				t.Errorf("%v: Down of %v is %v instead of %v", s.Mounts, x, got, want)
			}
			if got, want := mounts.Up(s, x), m.up(x); got != want {
				t.Errorf("%v: Up of %v is %v instead of %v", s.Mounts, x, got, want)
			}
			path, ok := mounts.Where(s, x)
			if want, found := m.path[x]; path != want || ok != found {
				t.Errorf("%v: Where of %v is %q, %v instead of %q", s.Mounts, x, path, ok, want)
			}
			if got := mounts.Visible(s, x); got != m.visible[x] {
				t.Errorf("%v: Visible of %v is %v", s.Mounts, x, got)
			}
			for _, y := range places(s) {
				if got := mounts.Within(s, y, x); got != slices.Contains(m.chain[x], y) {
					t.Errorf("%v: Within of %v in %v is %v", s.Mounts, y, x, got)
				}
			}
		}
	}
}

func TestDown(t *testing.T) {
	s := plain(t)
	stack := with(s, mount(2, at(0, 2)), mount(1, root(2)))
	for _, x := range [][2]api.File{
		{root(0), root(0)}, {at(0, 2), root(1)}, {root(2), root(1)}, {root(1), root(1)}, {at(0, 3), at(0, 3)}, {at(2, 2), at(2, 2)},
		{at(0, 5), at(0, 5)}, {at(0, 9), at(0, 9)}, {{}, {}}, {at(-1, 1), at(-1, 1)},
	} {
		if got := mounts.Down(stack, x[0]); got != x[1] {
			t.Errorf("Down of %v is %v", x[0], got)
		}
	}
	if mounts.Down(s, at(0, 2)) != at(0, 2) || mounts.Down(with(s, mount(1, root(0))), root(0)) != root(1) {
		t.Error("Down without a mount, or on the root")
	}
}

func TestUp(t *testing.T) {
	s := plain(t)
	stack := with(s, mount(2, at(0, 3)), mount(1, root(2)))
	for _, x := range [][2]api.File{
		{root(0), root(0)}, {at(0, 2), root(0)}, {at(0, 3), at(0, 2)}, {root(2), at(0, 2)}, {root(1), at(0, 2)}, {at(1, 2), root(1)}, {at(2, 2), root(2)},
		{at(0, 5), {}}, {at(0, 6), {}}, {at(0, 9), {}}, {{}, {}}, {at(3, 1), {}}, {at(-1, 1), {}},
	} {
		if got := mounts.Up(stack, x[0]); got != x[1] {
			t.Errorf("Up of %v is %v", x[0], got)
		}
	}
	top := with(s, mount(1, root(0)))
	for _, x := range [][2]api.File{{root(1), root(0)}, {at(1, 2), root(1)}, {root(2), root(2)}, {at(2, 2), root(2)}, {at(0, 2), root(0)}} {
		if got := mounts.Up(top, x[0]); got != x[1] {
			t.Errorf("Up of %v is %v", x[0], got)
		}
	}
}

func TestWithin(t *testing.T) {
	s := with(plain(t), mount(1, at(0, 3)))
	for _, x := range []struct {
		root, dir api.File
		want      bool
	}{
		{root(0), root(0), true}, {root(0), at(0, 3), true}, {at(0, 2), at(0, 3), true}, {at(0, 3), at(0, 2), false},
		{root(0), at(1, 3), true}, {at(0, 2), at(1, 3), true}, {at(0, 3), at(1, 3), true}, {root(1), at(1, 3), true}, {at(1, 3), at(1, 3), true}, {at(0, 4), at(1, 3), false},
		{root(1), at(0, 3), false}, {root(0), root(2), false}, {root(2), at(2, 2), true}, {root(2), root(2), true},
		{at(0, 5), at(0, 5), false}, {root(0), at(0, 5), false}, {root(0), at(0, 6), false}, {api.File{}, api.File{}, false}, {root(3), root(3), false}, {at(0, 9), at(0, 9), false}, {at(0, 9), root(0), false},
	} {
		if got := mounts.Within(s, x.root, x.dir); got != x.want {
			t.Errorf("Within of %v in %v is %v", x.root, x.dir, got)
		}
	}
}

func TestWhere(t *testing.T) {
	s := plain(t)
	stack := with(s, mount(1, at(0, 3)), mount(2, at(1, 2)))
	for _, x := range []struct {
		dir     api.File
		path    string
		visible bool
	}{
		{root(0), "/", true}, {at(0, 2), "/a", true}, {at(0, 3), "/a/b", false}, {at(0, 4), "/c", true}, {root(1), "/a/b", true}, {at(1, 2), "/a/b/d", false}, {at(1, 3), "/a/b/d/e", false}, {root(2), "/a/b/d", true}, {at(2, 2), "/a/b/d/a", true},
		{at(0, 5), "", false}, {at(0, 6), "", false}, {at(0, 9), "", false}, {api.File{}, "", false}, {at(-1, 1), "", false}, {at(3, 1), "", false},
	} {
		path, ok := mounts.Where(stack, x.dir)
		if path != x.path || ok != (x.path != "") || mounts.Visible(stack, x.dir) != x.visible {
			t.Errorf("Where of %v is %q, %v", x.dir, path, ok)
		}
	}
	for _, dir := range []api.File{root(1), at(1, 2), root(2), at(2, 2)} {
		if path, ok := mounts.Where(s, dir); path != "" || ok || mounts.Visible(s, dir) {
			t.Errorf("Where of %v, which is not mounted, is %q, %v", dir, path, ok)
		}
	}
}

// deep is a space with the longest paths: fifteen long names on each of three devices, each mounted on the deepest directory of the one before.
func deep(t *testing.T) api.Space {
	t.Helper()
	f, _ := files.New(3)
	s := api.Space{Files: f}
	for dev := range 3 {
		dir := root(dev)
		for ino := 2; ino <= 16; ino++ {
			s.Files = makeNode(t, s.Files, dir, strings.Repeat(string(rune('a'+ino)), 12), api.NodeDir)
			dir = at(dev, ino)
		}
		if dev > 0 {
			s.Mounts = append(s.Mounts, mount(dev, at(dev-1, 16)))
		}
	}
	return s
}

func TestLongestPath(t *testing.T) {
	s := deep(t)
	path, ok := mounts.Where(s, at(2, 16))
	if !mounts.Valid(s) || !ok || len(path) != 585 || !mounts.Visible(s, at(2, 16)) || !mounts.Within(s, root(0), at(2, 16)) {
		t.Errorf("%d bytes, %v", len(path), ok)
	}
	pieces := strings.Split(path, "/")
	for i, piece := range pieces[1:] {
		if piece != strings.Repeat(string(rune('c'+i%15)), 12) {
			t.Errorf("piece %d: %q", i, piece)
		}
	}
	if s.Mounts = s.Mounts[1:]; mounts.Within(s, root(0), at(2, 16)) {
		t.Error("the first mount is missing")
	}
}

// P6.6

func TestChains(t *testing.T) {
	for _, s := range spaces(plain(t)) {
		m := modelOf(s)
		for _, x := range places(s) {
			if _, ok := mounts.Where(s, x); ok && !mounts.Within(s, root(0), x) {
				t.Errorf("%v: %v has a path but is not below the root", s.Mounts, x)
			}
			if m.isDir(x) && !mounts.Within(s, mounts.Up(s, x), x) {
				t.Errorf("%v: Up of %v is not in its chain", s.Mounts, x)
			}
		}
		for _, x := range s.Mounts {
			path, ok := mounts.Where(s, x.On)
			if path2, ok2 := mounts.Where(s, root(x.Dev)); path != path2 || ok != ok2 || !ok {
				t.Errorf("%v: Where of %v is %q, and of what is mounted on it %q", s.Mounts, x.On, path, path2)
			}
			if mounts.Up(s, x.On) != mounts.Up(s, root(x.Dev)) {
				t.Errorf("%v: Up of %v and of what is mounted on it differ", s.Mounts, x.On)
			}
		}
	}
}

func TestExample(t *testing.T) {
	s, e := mounts.Add(plain(t), 1, at(0, 2))
	path, ok := mounts.Where(s, root(1))
	if e != 0 || path != "/a" || !ok || mounts.Up(s, root(1)) != root(0) || !mounts.Within(s, at(0, 2), root(1)) || mounts.Visible(s, at(0, 2)) {
		t.Errorf("%q, %v, %d", path, ok, e)
	}
}

// R1, R2

// roomy copies a space, with room behind each list that is filled with marks.
func roomy(s api.Space) api.Space {
	g := api.Space{Mounts: append(make([]api.Mount, 0, len(s.Mounts)+2), s.Mounts...)}
	copy(g.Mounts[len(g.Mounts):cap(g.Mounts)], []api.Mount{{Dev: 77}, {Dev: 78}})
	g.Files.Devices = make([]api.Device, 0, len(s.Files.Devices)+1)
	for _, d := range s.Files.Devices {
		nodes := make([]api.Node, 0, len(d.Nodes)+1)
		for _, n := range d.Nodes {
			n.Entries = append(make([]api.Entry, 0, len(n.Entries)+1), n.Entries...)
			n.Entries[:cap(n.Entries)][len(n.Entries)] = api.Entry{Name: "mark"}
			nodes = append(nodes, n)
		}
		nodes[:cap(nodes)][len(nodes)] = api.Node{Ino: 77}
		d.Nodes = nodes
		g.Files.Devices = append(g.Files.Devices, d)
	}
	return g
}

// whole lengthens all lists to their capacity, and copies them.
func whole(s api.Space) api.Space {
	g := api.Space{Mounts: slices.Clone(s.Mounts[:cap(s.Mounts)])}
	for _, d := range s.Files.Devices {
		d.Nodes = slices.Clone(d.Nodes[:cap(d.Nodes)])
		for i, n := range d.Nodes {
			d.Nodes[i].Entries = slices.Clone(n.Entries[:cap(n.Entries)])
		}
		g.Files.Devices = append(g.Files.Devices, d)
	}
	return g
}

// scribble changes all lists of a space, with their spare capacity.
func scribble(s api.Space) {
	for i := range s.Mounts[:cap(s.Mounts)] {
		s.Mounts[:cap(s.Mounts)][i] = api.Mount{Dev: -9}
	}
	for i, d := range s.Files.Devices {
		for j, n := range d.Nodes[:cap(d.Nodes)] {
			for k := range n.Entries[:cap(n.Entries)] {
				n.Entries[:cap(n.Entries)][k] = api.Entry{Name: "scribble"}
			}
			d.Nodes[:cap(d.Nodes)][j] = api.Node{Ino: -9}
		}
		s.Files.Devices[i] = api.Device{Next: -9}
	}
}

func TestMemory(t *testing.T) {
	base := with(plain(t), mount(1, at(0, 2)))
	for name, change := range map[string]func(s api.Space) (api.Space, api.Sys){
		"Add":    func(s api.Space) (api.Space, api.Sys) { return mounts.Add(s, 2, at(1, 2)) },
		"Remove": func(s api.Space) (api.Space, api.Sys) { return mounts.Remove(s, 1) },
		"busy":   func(s api.Space) (api.Space, api.Sys) { return mounts.Remove(s, 2) },
	} {
		s := roomy(base)
		before := whole(s)
		g, e := change(s)
		if !equalSpaces(whole(s), before) {
			t.Errorf("%s: the argument is changed", name)
		}
		want := roomy(g)
		scribble(s)
		if !equalSpaces(g, want) {
			t.Errorf("%s: the result is kept by the argument", name)
		}
		if e != 0 {
			continue
		}
		for i := range g.Files.Devices {
			for j := range g.Files.Devices[i].Nodes {
				n := &g.Files.Devices[i].Nodes[j]
				n.Entries = append(n.Entries, api.Entry{Ino: 100*i + j})
			}
		}
		for i, d := range g.Files.Devices {
			for j, n := range d.Nodes {
				if last := n.Entries[len(n.Entries)-1]; last.Ino != 100*i+j {
					t.Errorf("%s: lists of the result share memory", name)
				}
			}
		}
	}
}

// askAll calls all functions.
func askAll(s api.Space, x, y api.File, dev int) {
	mounts.Valid(s)
	mounts.Add(s, dev, x)
	mounts.Remove(s, dev)
	mounts.Mounted(s, dev)
	mounts.Covered(s, x)
	mounts.Down(s, x)
	mounts.Up(s, x)
	mounts.Within(s, y, x)
	mounts.Where(s, x)
	mounts.Visible(s, x)
}

func TestCircles(t *testing.T) {
	s := plain(t)
	for _, x := range []api.Space{
		{}, {Mounts: []api.Mount{{}}}, with(s, api.Mount{}),
		with(s, mount(0, root(0))), with(s, mount(0, at(0, 3))), with(s, mount(1, root(1))), with(s, mount(1, at(1, 3))),
		with(s, mount(1, root(2)), mount(2, root(1))), with(s, mount(1, at(2, 2)), mount(2, at(1, 3))), with(s, mount(1, root(2)), mount(2, root(0)), mount(0, root(1))),
	} {
		for _, at := range places(x) {
			askAll(x, at, root(5), 1)
		}
	}
	s.Files.Devices[0].Nodes[0].Ino = 8
	s.Files.Devices[0].Nodes[1].Parent = 3
	for _, at := range places(s) {
		askAll(s, at, root(5), 1)
	}
}

// TestAnySpace asks spaces that are hardly ever valid.
func TestAnySpace(t *testing.T) {
	r := rand.New(rand.NewSource(6))
	numbers := []int{0, 1, 1, 1, 2, 2, 3, 3, -1, api.MaxIno, math.MaxInt, math.MinInt}
	number := func() int { return numbers[r.Intn(len(numbers))] }
	file := func() api.File { return at(r.Intn(4)-r.Intn(2), number()) }
	for range 20000 {
		var s api.Space
		for range r.Intn(4) {
			d := api.Device{Next: number()}
			for range r.Intn(5) {
				n := api.Node{Ino: number(), Kind: 1 + r.Intn(3), Mode: number(), Parent: number()}
				for range r.Intn(3) {
					n.Entries = append(n.Entries, api.Entry{Name: []string{"", "a", "b", "/"}[r.Intn(4)], Ino: number()})
				}
				d.Nodes = append(d.Nodes, n)
			}
			s.Files.Devices = append(s.Files.Devices, d)
		}
		for range r.Intn(4) {
			s.Mounts = append(s.Mounts, mount(number(), file()))
		}
		before := roomy(s)
		askAll(s, file(), file(), number())
		if !equalSpaces(s, before) {
			t.Fatalf("%v is changed", before)
		}
	}
}
