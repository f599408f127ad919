package files_test

import (
	"maps"
	"math"
	"math/rand"
	"slices"
	"strconv"
	"strings"
	"testing"

	"kaudit/api"
	"kaudit/files"
)

var root = api.File{Ino: 1}

// at names a node of device 0.
func at(ino int) api.File { return api.File{Ino: ino} }

func newFile() api.Node { return api.Node{Kind: api.NodeFile, Mode: 420, UID: 3, GID: 4} }
func newDir() api.Node  { return api.Node{Kind: api.NodeDir, Mode: 493, UID: 5, GID: 6} }
func newLink(target string) api.Node {
	return api.Node{Kind: api.NodeLink, Mode: 511, UID: 7, GID: 8, Target: target}
}

func fresh(devices int) api.Files {
	f, _ := files.New(devices)
	return f
}

// do carries out steps that have no error.
func do(t *testing.T, f api.Files, steps ...step) api.Files {
	t.Helper()
	for i, x := range steps {
		g, _, e := x.run(f)
		if e != 0 {
			t.Fatalf("step %d: %d", i, e)
		}
		f = g
	}
	return f
}

func makeIn(dir api.File, name string, n api.Node) step {
	return step{do: doMake, dir: dir, name: name, node: n}
}

// tree is, on the first of two devices, /d (2), /d/f and /g (3), /l (4, a link), /d/e (5, a directory), /p (6, a link, also /q).
func tree(t *testing.T) api.Files {
	t.Helper()
	return do(t, fresh(2),
		makeIn(root, "d", newDir()),
		makeIn(at(2), "f", newFile()),
		step{do: doLink, dir: root, name: "g", at: at(3)},
		makeIn(root, "l", newLink("d/f")),
		makeIn(at(2), "e", newDir()),
		makeIn(root, "p", newLink("/x")),
		step{do: doLink, dir: root, name: "q", at: at(6)},
	)
}

func equalNodes(a, b api.Node) bool {
	entries := slices.Equal(a.Entries, b.Entries)
	return entries && a.Ino == b.Ino && a.Kind == b.Kind && a.Mode == b.Mode && a.UID == b.UID && a.GID == b.GID && a.Parent == b.Parent && a.Target == b.Target
}

func equalFiles(a, b api.Files) bool {
	return slices.EqualFunc(a.Devices, b.Devices, func(a, b api.Device) bool {
		return a.Next == b.Next && slices.EqualFunc(a.Nodes, b.Nodes, equalNodes)
	})
}

// P5.1

func TestNewDevices(t *testing.T) {
	for _, n := range []int{math.MinInt, -1, 0, 4, 5, math.MaxInt} {
		if f, e := files.New(n); e != api.ErrFilesDevices || f.Devices != nil {
			t.Errorf("New(%d): %v, %d", n, f, e)
		}
	}
	for n := 1; n <= 3; n++ {
		f, e := files.New(n)
		if e != api.OK || len(f.Devices) != n || !files.Valid(f) {
			t.Errorf("New(%d): %v, %d", n, f, e)
		}
		for _, d := range f.Devices {
			if d.Next != 2 || len(d.Nodes) != 1 || !equalNodes(d.Nodes[0], api.Node{Ino: 1, Kind: api.NodeDir, Mode: 493, Parent: 1}) {
				t.Errorf("New(%d): %v", n, d)
			}
		}
	}
	f := fresh(2)
	f.Devices[0].Nodes[0].Mode = 0
	if f.Devices[1].Nodes[0].Mode != 493 || fresh(2).Devices[0].Nodes[0].Mode != 493 {
		t.Error("the devices share memory")
	}
}

func TestValidFiles(t *testing.T) {
	if files.Valid(api.Files{}) || files.Valid(api.Files{Devices: []api.Device{}}) || files.Valid(api.Files{Devices: []api.Device{{}}}) {
		t.Error("files without devices or nodes are valid")
	}
	if !files.Valid(tree(t)) {
		t.Error("the tree is not valid")
	}
	for i, change := range []func(f *api.Files){
		func(f *api.Files) {},
		func(f *api.Files) { f.Devices[0].Next = api.MaxIno },
		func(f *api.Files) { f.Devices[0].Next = 7 },
		func(f *api.Files) { f.Devices = append(f.Devices, f.Devices[1]) },
		func(f *api.Files) { f.Devices = f.Devices[:1] },
		func(f *api.Files) { f.Devices[1].Nodes[0].Entries = []api.Entry{} },
		func(f *api.Files) { n := &f.Devices[0].Nodes[2]; n.Mode, n.UID, n.GID = 511, api.MaxID, api.MaxID },
		func(f *api.Files) { n := &f.Devices[0].Nodes[0]; n.Mode, n.UID, n.GID = 0, 9, 0 },
		func(f *api.Files) { f.Devices[0].Nodes[3].Target = strings.Repeat("\xff", 128) },
		func(f *api.Files) { f.Devices[0].Nodes[3].Target = "/" },
		func(f *api.Files) { f.Devices[0].Nodes[3].Entries = []api.Entry{} },
		func(f *api.Files) { f.Devices[0].Nodes[1].Entries[1].Name = "\xff" },
		func(f *api.Files) { f.Devices[0].Nodes[1].Entries[1].Name = "efghijklmnop" },
	} {
		f := tree(t)
		if change(&f); !files.Valid(f) {
			t.Errorf("%d: not valid: %v", i, f)
		}
	}
}

func TestInvalidFiles(t *testing.T) {
	node := func(f *api.Files, ino int) *api.Node { return &f.Devices[0].Nodes[ino-1] }
	spoilers := []func(f *api.Files){
		func(f *api.Files) { f.Devices = append(f.Devices, f.Devices[1], f.Devices[1]) },
		func(f *api.Files) { f.Devices[1].Nodes = nil },
		func(f *api.Files) { f.Devices[1] = api.Device{} },
		func(f *api.Files) { f.Devices[0].Next = 6 },
		func(f *api.Files) { f.Devices[0].Next = -1 },
		func(f *api.Files) { f.Devices[1].Next = 1 },
		func(f *api.Files) { f.Devices[0].Next = api.MaxIno + 1 },
		func(f *api.Files) { f.Devices[0].Next = math.MaxInt },

		// Nodes alone.
		func(f *api.Files) { node(f, 3).Kind = 0 },
		func(f *api.Files) { node(f, 3).Kind = 4 },
		func(f *api.Files) { node(f, 1).Kind = api.NodeFile },
		func(f *api.Files) { f.Devices[1].Nodes[0].Kind = 0 },
		func(f *api.Files) { f.Devices[1].Nodes[0] = api.Node{Ino: 1, Kind: api.NodeFile} },
		func(f *api.Files) { f.Devices[1].Nodes[0] = api.Node{Ino: 1, Kind: api.NodeLink, Target: "a"} },
		func(f *api.Files) { node(f, 3).Mode = 512 },
		func(f *api.Files) { node(f, 1).Mode = -1 },
		func(f *api.Files) { node(f, 4).UID = -1 },
		func(f *api.Files) { node(f, 4).UID = api.MaxID + 1 },
		func(f *api.Files) { node(f, 2).GID = -1 },
		func(f *api.Files) { node(f, 2).GID = api.MaxID + 1 },
		func(f *api.Files) { node(f, 3).Target = "a" },
		func(f *api.Files) { node(f, 2).Target = "a" },
		func(f *api.Files) { node(f, 4).Target = "" },
		func(f *api.Files) { node(f, 4).Target = "a\x00" },
		func(f *api.Files) { node(f, 4).Target = "\x00" },
		func(f *api.Files) { node(f, 4).Target = strings.Repeat("a", 129) },
		func(f *api.Files) { node(f, 3).Parent = 1 },
		func(f *api.Files) { node(f, 4).Parent = 1 },
		func(f *api.Files) { node(f, 3).Entries = []api.Entry{{Name: "a", Ino: 6}} },
		func(f *api.Files) { node(f, 4).Entries = []api.Entry{{Name: "a", Ino: 6}} },

		// Numbers.
		func(f *api.Files) { node(f, 1).Ino = 0 },
		func(f *api.Files) { f.Devices[1].Nodes[0].Ino, f.Devices[1].Nodes[0].Parent = 0, 0 },
		func(f *api.Files) {
			f.Devices[1].Nodes[0].Ino, f.Devices[1].Nodes[0].Parent, f.Devices[1].Next = 2, 2, 3
		},
		func(f *api.Files) { f.Devices[1].Nodes[0].Ino, f.Devices[1].Next = 2, 3 },
		func(f *api.Files) {
			top := api.Node{Ino: 2, Kind: api.NodeDir, Parent: 1, Entries: []api.Entry{{Name: "a", Ino: 3}}}
			f.Devices[1] = api.Device{Next: 4, Nodes: []api.Node{top, {Ino: 3, Kind: api.NodeFile}}}
		},
		func(f *api.Files) { node(f, 3).Ino = -3 },
		func(f *api.Files) { node(f, 4).Ino = 3 },
		func(f *api.Files) { n := f.Devices[0].Nodes; n[2], n[3] = n[3], n[2] },
		func(f *api.Files) { n := f.Devices[0].Nodes; n[0], n[1] = n[1], n[0] },
		func(f *api.Files) { f.Devices[0].Nodes = f.Devices[0].Nodes[1:] },

		// Names.
		func(f *api.Files) { node(f, 2).Entries[0].Name = "." },
		func(f *api.Files) { node(f, 2).Entries[0].Name = "" },
		func(f *api.Files) { node(f, 2).Entries[0].Name = "a/b" },
		func(f *api.Files) { node(f, 2).Entries[1].Name = "fghijklmnopqr" },
		func(f *api.Files) { node(f, 1).Entries[2].Name = "g" },
		func(f *api.Files) { e := node(f, 1).Entries; e[0], e[1] = e[1], e[0] },

		// Where entries lead to.
		func(f *api.Files) { node(f, 2).Entries[1].Ino = 9 },
		func(f *api.Files) { node(f, 2).Entries[1].Ino = 0 },
		func(f *api.Files) { node(f, 2).Entries[1].Ino = 1 },
		func(f *api.Files) { node(f, 2).Entries[1].Ino = 2 },
		func(f *api.Files) { f.Devices[1].Nodes[0].Entries = []api.Entry{{Name: "a", Ino: 1}} },
		func(f *api.Files) { node(f, 2).Entries[1].Ino = 5 },
		func(f *api.Files) { node(f, 1).Entries[1].Ino = 5 },
		func(f *api.Files) { node(f, 2).Parent = 5 },
		func(f *api.Files) { node(f, 5).Parent = 1 },
		func(f *api.Files) { node(f, 5).Parent = 0 },
		func(f *api.Files) { node(f, 1).Parent = 0 },
		func(f *api.Files) { node(f, 1).Parent = 2 },
		func(f *api.Files) { e := node(f, 1).Entries; node(f, 1).Entries = slices.Delete(e, 2, 3) },
		func(f *api.Files) { node(f, 1).Entries = node(f, 1).Entries[1:] },
		func(f *api.Files) { node(f, 2).Entries = node(f, 2).Entries[1:] },
	}
	for i, spoil := range spoilers {
		f := tree(t)
		if spoil(&f); files.Valid(f) {
			t.Errorf("%d: valid: %v", i, f)
		}
	}
}

// TestUnreached has files in which each directory has its entry in its parent, but not all are reached from the root.
func TestUnreached(t *testing.T) {
	alone := api.Node{Ino: 2, Kind: api.NodeDir, Parent: 2, Entries: []api.Entry{{Name: "a", Ino: 2}}}
	one := api.Node{Ino: 2, Kind: api.NodeDir, Parent: 3, Entries: []api.Entry{{Name: "a", Ino: 3}}}
	two := api.Node{Ino: 3, Kind: api.NodeDir, Parent: 2, Entries: []api.Entry{{Name: "a", Ino: 2}, {Name: "b", Ino: 4}}}
	below := api.Node{Ino: 4, Kind: api.NodeDir, Parent: 3}
	for i, nodes := range [][]api.Node{{alone}, {one, two, below}} {
		f := fresh(1)
		f.Devices[0].Next = 9
		f.Devices[0].Nodes = append(f.Devices[0].Nodes, nodes...)
		if files.Valid(f) {
			t.Errorf("%d: valid", i)
		}
	}
}

// TestMost has as many nodes, entries and levels as there may be, and one more.
func TestMost(t *testing.T) {
	chain, flat := fresh(1), fresh(1)
	for i := 1; i < 16; i++ {
		chain = do(t, chain, makeIn(at(i), "d", newDir()))
	}
	for i := range 12 {
		flat = do(t, flat, makeIn(root, "n"+strconv.Itoa(i), newFile()))
	}
	if !files.Valid(chain) || !files.Valid(flat) || len(chain.Devices[0].Nodes) != 16 {
		t.Error("full files are not valid")
	}
	d := &chain.Devices[0]
	d.Next = 18
	d.Nodes = append(d.Nodes, api.Node{Ino: 17, Kind: api.NodeDir, Parent: 16})
	d.Nodes[15].Entries = []api.Entry{{Name: "d", Ino: 17}}
	if files.Valid(chain) {
		t.Error("17 nodes are valid")
	}
	n := &flat.Devices[0].Nodes[0]
	n.Entries = append(n.Entries, api.Entry{Name: "x", Ino: 2})
	if files.Valid(flat) {
		t.Error("13 entries are valid")
	}
}

func TestNodesAndLinks(t *testing.T) {
	f := tree(t)
	for _, x := range []struct {
		at    api.File
		node  api.Node
		links int
	}{
		{root, api.Node{Ino: 1, Kind: api.NodeDir, Mode: 493, Parent: 1, Entries: []api.Entry{{Name: "d", Ino: 2}, {Name: "g", Ino: 3}, {Name: "l", Ino: 4}, {Name: "p", Ino: 6}, {Name: "q", Ino: 6}}}, 0},
		{at(2), api.Node{Ino: 2, Kind: api.NodeDir, Mode: 493, UID: 5, GID: 6, Parent: 1, Entries: []api.Entry{{Name: "e", Ino: 5}, {Name: "f", Ino: 3}}}, 1},
		{at(3), api.Node{Ino: 3, Kind: api.NodeFile, Mode: 420, UID: 3, GID: 4}, 2},
		{at(4), api.Node{Ino: 4, Kind: api.NodeLink, Mode: 511, UID: 7, GID: 8, Target: "d/f"}, 1},
		{at(5), api.Node{Ino: 5, Kind: api.NodeDir, Mode: 493, UID: 5, GID: 6, Parent: 2}, 1},
		{at(6), api.Node{Ino: 6, Kind: api.NodeLink, Mode: 511, UID: 7, GID: 8, Target: "/x"}, 2},
		{api.File{Dev: 1, Ino: 1}, api.Node{Ino: 1, Kind: api.NodeDir, Mode: 493, Parent: 1}, 0},
	} {
		n, found := files.Node(f, x.at)
		if !found || !equalNodes(n, x.node) || files.Links(f, x.at) != x.links {
			t.Errorf("Node %v: %v, %v", x.at, n, found)
		}
	}
	for _, x := range []api.File{{}, {Ino: 7}, {Ino: -1}, {Dev: 1, Ino: 2}, {Dev: 2, Ino: 1}, {Dev: -1, Ino: 1}, {Dev: math.MaxInt, Ino: 1}, {Dev: math.MinInt, Ino: 1}, {Ino: math.MaxInt}} {
		n, found := files.Node(f, x)
		if found || !equalNodes(n, api.Node{}) || n.Entries != nil || files.Links(f, x) != 0 {
			t.Errorf("Node %v: %v, %v", x, n, found)
		}
	}
}

// P5.2

func TestLooks(t *testing.T) {
	f := tree(t)
	for _, x := range []struct {
		dir  api.File
		name string
		want api.File
		e    api.Sys
	}{
		{root, "d", at(2), 0},
		{root, "g", at(3), 0},
		{root, "q", at(6), 0},
		{at(2), "f", at(3), 0},
		{root, "f", api.File{}, api.ENOENT},
		{root, "", api.File{}, api.ENOENT},
		{root, ".", api.File{}, api.ENOENT},
		{root, "..", api.File{}, api.ENOENT},
		{root, "d/f", api.File{}, api.ENOENT},
		{root, "gg", api.File{}, api.ENOENT},
		{root, "z", api.File{}, api.ENOENT},
		{at(5), "d", api.File{}, api.ENOENT},
		{api.File{Dev: 1, Ino: 1}, "d", api.File{}, api.ENOENT},
		{at(3), "d", api.File{}, api.ENOTDIR},
		{at(4), "f", api.File{}, api.ENOTDIR},
		{at(9), "d", api.File{}, api.ENOENT},
		{api.File{}, "d", api.File{}, api.ENOENT},
		{api.File{Dev: -1, Ino: 1}, "d", api.File{}, api.ENOENT},
		{api.File{Dev: 2, Ino: 1}, "d", api.File{}, api.ENOENT},
	} {
		if got, e := files.Look(f, x.dir, x.name); got != x.want || e != x.e {
			t.Errorf("Look %v %q: %v, %d", x.dir, x.name, got, e)
		}
	}
	do(t, f, step{do: doUnlink, dir: root, name: "g"})
	other := do(t, f, makeIn(api.File{Dev: 1, Ino: 1}, "d", newFile()))
	if got, e := files.Look(other, api.File{Dev: 1, Ino: 1}, "d"); got != (api.File{Dev: 1, Ino: 2}) || e != 0 {
		t.Errorf("on device 1: %v, %d", got, e)
	}
}

// P5.3

// errorsOf checks steps of the tree, each of which has an error.
func errorsOf(t *testing.T, f api.Files, want api.Sys, steps ...step) {
	t.Helper()
	for i, x := range steps {
		g, changes, e := x.run(f)
		if e != want || changes != nil || g.Devices != nil {
			t.Errorf("step %d: %v, %v, %d instead of %d", i, g, changes, e, want)
		}
	}
}

func TestMakeErrors(t *testing.T) {
	f := tree(t)
	with := func(change func(n *api.Node)) api.Node {
		n := newFile()
		change(&n)
		return n
	}
	errorsOf(t, f, api.ENOENT, makeIn(at(9), "", api.Node{}), makeIn(api.File{}, "x", newFile()), makeIn(api.File{Dev: 2, Ino: 1}, "x", newFile()))
	errorsOf(t, f, api.ENOTDIR, makeIn(at(3), "", api.Node{}), makeIn(at(4), "x", newFile()))
	for _, name := range []string{"", ".", "..", "a/b", "/", "a\x00", "abcdefghijklm"} {
		errorsOf(t, f, api.EINVAL, makeIn(root, name, newFile()))
	}
	for _, n := range []api.Node{
		{}, {Kind: 4}, {Kind: -1},
		with(func(n *api.Node) { n.Mode = -1 }), with(func(n *api.Node) { n.Mode = 512 }),
		with(func(n *api.Node) { n.UID = -1 }), with(func(n *api.Node) { n.UID = api.MaxID + 1 }),
		with(func(n *api.Node) { n.GID = -1 }), with(func(n *api.Node) { n.GID = api.MaxID + 1 }),
		with(func(n *api.Node) { n.Target = "a" }), with(func(n *api.Node) { n.Kind, n.Target = api.NodeDir, "a" }),
		newLink(""), newLink("a\x00b"), newLink(strings.Repeat("a", 129)),
	} {
		errorsOf(t, f, api.EINVAL, makeIn(root, "x", n), makeIn(root, "d", n))
	}
	errorsOf(t, f, api.EEXIST, makeIn(root, "d", newFile()), makeIn(root, "d", newDir()), makeIn(at(2), "f", newLink("a")))
}

// TestMakeIgnores: the other fields of the node are not looked at.
func TestMakeIgnores(t *testing.T) {
	for _, n := range []api.Node{newFile(), newDir(), newLink("a")} {
		odd := n
		odd.Ino, odd.Parent, odd.Entries = -7, 99, []api.Entry{{Name: "/", Ino: 3}}
		f, _, e := files.Make(tree(t), at(5), "x", n)
		g, changes, e2 := files.Make(tree(t), at(5), "x", odd)
		if e != 0 || e2 != 0 || !equalFiles(f, g) || !slices.Equal(changes, []api.Change{{Dir: at(5), Name: "x", New: at(7)}}) {
			t.Errorf("Make of %v: %v, %d", odd, changes, e2)
		}
		want := n
		if want.Ino = 7; n.Kind == api.NodeDir {
			want.Parent = 5
		}
		if made, _ := files.Node(g, at(7)); !equalNodes(made, want) || g.Devices[0].Next != 8 || g.Devices[1].Next != 2 {
			t.Errorf("made: %v", made)
		}
	}
}

func TestMakeLimits(t *testing.T) {
	nodes, entries := fresh(1), fresh(1)
	for i := range 15 {
		nodes = do(t, nodes, makeIn(at(1+i/5), "n"+strconv.Itoa(i), newDir()))
	}
	for i := range 12 {
		entries = do(t, entries, makeIn(root, "n"+strconv.Itoa(i), newFile()))
	}
	for _, f := range []api.Files{nodes, entries} {
		errorsOf(t, f, api.EINVAL, makeIn(root, "", newFile()))
		errorsOf(t, f, api.EEXIST, makeIn(root, "n0", newFile()))
		errorsOf(t, f, api.ENOSPC, makeIn(root, "x", newFile()))
	}
	errorsOf(t, nodes, api.ENOSPC, makeIn(at(9), "x", newFile()))
	errorsOf(t, entries, api.ENOSPC, step{do: doLink, dir: root, name: "x", at: at(2)})
	errorsOf(t, entries, api.EEXIST, step{do: doLink, dir: root, name: "n11", at: at(2)})

	last := fresh(2)
	last.Devices[0].Next = api.MaxIno - 1
	last, changes, e := files.Make(last, root, "a", newDir())
	if e != 0 || changes[0].New.Ino != api.MaxIno-1 || last.Devices[0].Next != api.MaxIno || !files.Valid(last) {
		t.Errorf("the last number: %v, %d", changes, e)
	}
	errorsOf(t, last, api.ENOSPC, makeIn(root, "b", newFile()), makeIn(at(api.MaxIno-1), "b", newFile()))
	errorsOf(t, last, api.EEXIST, makeIn(root, "a", newFile()))
	do(t, last, makeIn(api.File{Dev: 1, Ino: 1}, "b", newFile()))
}

func TestLinks(t *testing.T) {
	f := tree(t)
	other := api.File{Dev: 1, Ino: 1}
	in := func(dir api.File, name string, to api.File) step {
		return step{do: doLink, dir: dir, name: name, at: to}
	}
	errorsOf(t, f, api.ENOENT, in(at(9), "", at(9)), in(root, "x", at(9)), in(root, "d", at(9)), in(root, "d", api.File{}), in(root, "x", api.File{Dev: 3, Ino: 1}))
	errorsOf(t, f, api.ENOTDIR, in(at(3), "", at(9)))
	errorsOf(t, f, api.EINVAL, in(root, "", at(9)), in(root, "..", at(2)), in(root, "a/b", at(3)))
	errorsOf(t, f, api.EXDEV, in(other, "x", at(3)), in(other, "x", at(2)), in(root, "d", other))
	errorsOf(t, f, api.EPERM, in(root, "d", at(2)), in(root, "x", root), in(at(5), "x", at(2)))
	errorsOf(t, f, api.EEXIST, in(root, "d", at(3)), in(root, "g", at(3)))

	g, changes, e := files.Link(f, at(5), "x", at(4))
	if e != 0 || !slices.Equal(changes, []api.Change{{Dir: at(5), Name: "x", New: at(4)}}) || files.Links(g, at(4)) != 2 || g.Devices[0].Next != 7 {
		t.Errorf("Link: %v, %d", changes, e)
	}
}

func TestRemovals(t *testing.T) {
	f := tree(t)
	unlink := func(dir api.File, name string) step { return step{do: doUnlink, dir: dir, name: name} }
	remove := func(dir api.File, name string) step { return step{do: doRemove, dir: dir, name: name} }
	errorsOf(t, f, api.ENOENT, unlink(at(9), ""), unlink(root, "x"), remove(at(9), ""), remove(root, "x"))
	errorsOf(t, f, api.ENOTDIR, unlink(at(3), ""), remove(at(4), ""), remove(root, "g"), remove(root, "l"))
	errorsOf(t, f, api.EINVAL, unlink(root, ""), unlink(root, "."), remove(root, ""), remove(root, ".."), unlink(root, "d/f"), remove(root, "d/e"))
	errorsOf(t, f, api.EISDIR, unlink(root, "d"), unlink(at(2), "e"))
	errorsOf(t, f, api.ENOTEMPTY, remove(root, "d"))

	f = do(t, f, unlink(root, "g"))
	if n, found := files.Node(f, at(3)); !found || n.UID != 3 {
		t.Error("a node with an entry is gone")
	}
	g, changes, e := files.Unlink(f, at(2), "f")
	if _, found := files.Node(g, at(3)); e != 0 || found || !slices.Equal(changes, []api.Change{{Dir: at(2), Name: "f", Old: at(3)}}) {
		t.Errorf("Unlink: %v, %d", changes, e)
	}
	g, changes, e = files.RemoveDir(g, at(2), "e")
	if _, found := files.Node(g, at(5)); e != 0 || found || !slices.Equal(changes, []api.Change{{Dir: at(2), Name: "e", Old: at(5)}}) {
		t.Errorf("RemoveDir: %v, %d", changes, e)
	}
	g = do(t, g, remove(root, "d"), makeIn(root, "d", newDir()))
	if to, _ := files.Look(g, root, "d"); to != at(7) {
		t.Errorf("the new directory: %v", to)
	}
}

func rename(from api.File, name string, to api.File, name2 string) step {
	return step{do: doRename, dir: from, name: name, dir2: to, name2: name2}
}

func TestRenameErrors(t *testing.T) {
	f := tree(t)
	other := api.File{Dev: 1, Ino: 1}
	f = do(t, f, makeIn(other, "o", newDir()), makeIn(at(5), "s", newDir()), makeIn(root, "n", newDir()))
	errorsOf(t, f, api.ENOENT, rename(at(99), "", root, ""), rename(root, "", at(99), ""), rename(at(3), "", at(99), ""), rename(at(99), "", at(3), ""), rename(root, "x", root, "d"), rename(root, "x", other, "y"))
	errorsOf(t, f, api.ENOTDIR, rename(at(3), "", root, ""), rename(root, "", at(4), ""))
	errorsOf(t, f, api.EINVAL, rename(root, "", root, "d"), rename(root, "d", root, ""), rename(root, "x", other, "."), rename(root, "..", other, "x"))
	errorsOf(t, f, api.EXDEV, rename(root, "d", other, "x"), rename(other, "o", root, "g"), rename(root, "g", other, "o"))
	errorsOf(t, f, api.EINVAL, rename(root, "d", at(2), "x"), rename(root, "d", at(2), "f"), rename(root, "d", at(5), "d"), rename(at(2), "e", at(7), "x"), rename(root, "d", at(7), "x"))
	errorsOf(t, f, api.EISDIR, rename(root, "g", root, "d"), rename(root, "l", root, "n"))
	errorsOf(t, f, api.ENOTDIR, rename(root, "d", root, "g"), rename(root, "n", root, "l"))
	errorsOf(t, f, api.ENOTEMPTY, rename(root, "n", root, "d"), rename(at(5), "s", root, "d"), rename(at(5), "s", at(2), "e"))
}

func TestRenames(t *testing.T) {
	f := tree(t)
	for i, x := range []struct {
		step    step
		changes []api.Change
		gone    int
	}{
		{rename(root, "g", root, "x"), []api.Change{{Dir: root, Name: "g", Old: at(3)}, {Dir: root, Name: "x", New: at(3)}}, 0},
		{rename(root, "g", at(5), "g"), []api.Change{{Dir: root, Name: "g", Old: at(3)}, {Dir: at(5), Name: "g", New: at(3)}}, 0},
		{rename(root, "g", root, "l"), []api.Change{{Dir: root, Name: "g", Old: at(3)}, {Dir: root, Name: "l", Old: at(4), New: at(3)}}, 4},
		{rename(root, "l", root, "g"), []api.Change{{Dir: root, Name: "l", Old: at(4)}, {Dir: root, Name: "g", Old: at(3), New: at(4)}}, 0},
		{rename(at(2), "e", root, "e"), []api.Change{{Dir: at(2), Name: "e", Old: at(5)}, {Dir: root, Name: "e", New: at(5)}}, 0},
		{rename(root, "g", at(2), "f"), nil, 0},
		{rename(root, "g", root, "g"), nil, 0},
		{rename(root, "d", root, "d"), nil, 0},
		{rename(root, "p", root, "q"), nil, 0},
	} {
		g, changes, e := x.step.run(f)
		if e != 0 || !slices.Equal(changes, x.changes) || !files.Valid(g) {
			t.Errorf("%d: %v, %d", i, changes, e)
		}
		if x.changes == nil && !equalFiles(f, g) {
			t.Errorf("%d: the files are others", i)
		}
		_, found := files.Node(g, at(x.gone))
		if want := len(f.Devices[0].Nodes) - min(x.gone, 1); found || len(g.Devices[0].Nodes) != want {
			t.Errorf("%d: %d nodes", i, len(g.Devices[0].Nodes))
		}
	}
}

func TestMovedDirectory(t *testing.T) {
	f := do(t, tree(t), makeIn(root, "n", newDir()))
	f = do(t, f, rename(at(2), "e", at(7), "e"))
	if n, _ := files.Node(f, at(5)); n.Parent != 7 {
		t.Errorf("the parent is %d", n.Parent)
	}
	errorsOf(t, f, api.EINVAL, rename(root, "n", at(5), "x"))
	// The directory that was above is below now.
	f = do(t, f, rename(root, "d", at(5), "d"))
	errorsOf(t, f, api.EINVAL, rename(root, "n", at(2), "x"))
	// An empty directory is replaced, and gone.
	f = do(t, f, makeIn(root, "m", newDir()), rename(at(7), "e", root, "m"))
	if _, found := files.Node(f, at(8)); found || !files.Valid(f) {
		t.Error("the directory is there")
	}
	if n, _ := files.Node(f, at(5)); n.Parent != 1 {
		t.Errorf("the parent is %d", n.Parent)
	}
}

func TestRenameFull(t *testing.T) {
	f := fresh(1)
	for i := range 12 {
		f = do(t, f, makeIn(root, "n"+strconv.Itoa(i), newDir()))
	}
	f = do(t, f, makeIn(at(2), "d", newDir()), makeIn(at(2), "f", newFile()))
	errorsOf(t, f, api.ENOSPC, rename(at(2), "d", root, "x"), rename(at(2), "f", root, "x"))
	errorsOf(t, f, api.EISDIR, rename(at(2), "f", root, "n3"))
	errorsOf(t, f, api.ENOENT, rename(at(2), "y", root, "x"))
	do(t, f, rename(root, "n3", root, "x"), rename(root, "n4", at(2), "x"), rename(at(2), "d", root, "n4"))
	do(t, f, rename(at(2), "d", root, "n5"))
}

// P5.4

func TestSet(t *testing.T) {
	f := tree(t)
	set := func(at api.File, mode, uid, gid int) step {
		return step{do: doSet, at: at, node: api.Node{Mode: mode, UID: uid, GID: gid}}
	}
	errorsOf(t, f, api.ENOENT, set(at(9), 0, 0, 0), set(at(9), -1, 0, 0), set(api.File{Dev: -1, Ino: 1}, 0, 0, 0), set(api.File{Dev: 2, Ino: 1}, 0, 0, 0), set(api.File{}, 0, 0, 0))
	for _, bad := range []int{-1, math.MinInt, math.MaxInt} {
		errorsOf(t, f, api.EINVAL, set(root, bad, 0, 0), set(at(2), 0, bad, 0), set(at(3), 0, 0, bad))
	}
	errorsOf(t, f, api.EINVAL, set(root, 512, 0, 0), set(root, 0, api.MaxID+1, 0), set(root, 0, 0, api.MaxID+1))
	for ino := 1; ino <= 6; ino++ {
		for _, x := range []api.Node{{}, {Mode: 511, UID: api.MaxID, GID: api.MaxID}, {Mode: 1, UID: 2, GID: 3}} {
			g, e := files.Set(f, at(ino), x.Mode, x.UID, x.GID)
			want := modelOf(f)
			want.run(set(at(ino), x.Mode, x.UID, x.GID))
			if e != 0 || !equalFiles(g, want.files()) || !files.Valid(g) {
				t.Errorf("Set of %d: %v, %d", ino, g, e)
			}
		}
	}
}

// P5.5, and all of the chapter again: walks that are compared with the model

// randomFile returns a place of the files, or none.
func randomFile(r *rand.Rand, f api.Files) api.File {
	dev := r.Intn(len(f.Devices))
	if r.Intn(40) == 0 {
		return api.File{Dev: dev - r.Intn(4), Ino: r.Intn(30) - 1}
	}
	nodes := f.Devices[dev].Nodes
	return api.File{Dev: dev, Ino: nodes[r.Intn(len(nodes))].Ino}
}

func randomDir(r *rand.Rand, f api.Files) api.File {
	for range 5 {
		x := randomFile(r, f)
		if n, _ := files.Node(f, x); n.Kind == api.NodeDir {
			return x
		}
	}
	return randomFile(r, f)
}

func randomNode(r *rand.Rand) api.Node {
	n := []api.Node{newFile(), newDir(), newLink("d/f")}[r.Intn(3)]
	if r.Intn(20) == 0 {
		n.Mode += 100
	}
	if r.Intn(20) == 0 {
		n.Kind = r.Intn(5)
	}
	return n
}

func randomStep(r *rand.Rand, f api.Files, names []string) step {
	name := func() string { return names[r.Intn(len(names))] }
	x := step{do: r.Intn(doCount), dir: randomDir(r, f), dir2: randomDir(r, f), name: name(), name2: name(), at: randomFile(r, f), node: randomNode(r)}
	if r.Intn(3) == 0 {
		x.do = doMake
	}
	return x
}

// entriesAfter applies changes to a list of all entries.
func entriesAfter(entries map[spot]api.File, changes []api.Change) map[spot]api.File {
	after := maps.Clone(entries)
	for _, c := range changes {
		delete(after, spot{c.Dir, c.Name})
		if c.New != (api.File{}) {
			after[spot{c.Dir, c.Name}] = c.New
		}
	}
	return after
}

// checkChanges: each entry is named once, and is led elsewhere from where it led to.
func checkChanges(t *testing.T, f, g api.Files, changes []api.Change) {
	t.Helper()
	before, seen := modelOf(f).entries, map[spot]bool{}
	for _, c := range changes {
		s := spot{c.Dir, c.Name}
		if seen[s] || c.Old == c.New || before[s] != c.Old {
			t.Fatalf("changes %v", changes)
		}
		seen[s] = true
	}
	if !maps.Equal(entriesAfter(before, changes), modelOf(g).entries) {
		t.Fatalf("changes %v from %v to %v", changes, f, g)
	}
}

// checkStep compares a step with that of the model, and returns the files after it.
func checkStep(t *testing.T, f api.Files, x step) api.Files {
	t.Helper()
	m := modelOf(f)
	wantChanges, want := m.run(x)
	g, changes, e := x.run(f)
	if e != want || !slices.Equal(changes, wantChanges) {
		t.Fatalf("%+v of %v: %v, %d instead of %v, %d", x, f, changes, e, wantChanges, want)
	}
	if e != 0 {
		if g.Devices != nil {
			t.Fatalf("%+v: files beside an error", x)
		}
		return f
	}
	if !equalFiles(g, m.files()) || !files.Valid(g) {
		t.Fatalf("%+v of %v: %v", x, f, g)
	}
	checkChanges(t, f, g, changes)
	return g
}

func TestWalks(t *testing.T) {
	few := []string{"a", "b", "c", "d", ""}
	many := strings.Split("a b c d e f g h i j k l m n o p", " ")
	for seed := range 40 {
		r := rand.New(rand.NewSource(int64(seed)))
		names := few
		if seed%2 == 1 {
			names = many
		}
		f := fresh(1 + seed%3)
		nodes := modelOf(f).nodes
		used := maps.Clone(nodes)
		for range 120 {
			f = checkStep(t, f, randomStep(r, f, names))
			after := modelOf(f).nodes
			for at := range after {
				_, before := nodes[at]
				if _, old := used[at]; old && !before {
					t.Fatalf("%v is used again", at)
				}
			}
			maps.Copy(used, after)
			nodes = after
		}
	}
}

// TestEveryStep takes every step from some trees.
func TestEveryStep(t *testing.T) {
	names := []string{"a", "b", "c", "/"}
	for seed := range 6 {
		r := rand.New(rand.NewSource(int64(seed)))
		f := fresh(2)
		for len(f.Devices[0].Nodes) < 6 {
			f = checkStep(t, f, randomStep(r, f, names[:3]))
		}
		places := []api.File{{}, {Dev: 1, Ino: 1}, {Dev: -1, Ino: 1}}
		for _, n := range f.Devices[0].Nodes {
			places = append(places, api.File{Ino: n.Ino})
		}
		for _, dir := range places {
			for _, name := range names {
				checkStep(t, f, makeIn(dir, name, newDir()))
				checkStep(t, f, step{do: doUnlink, dir: dir, name: name})
				checkStep(t, f, step{do: doRemove, dir: dir, name: name})
				for _, other := range places {
					checkStep(t, f, step{do: doLink, dir: dir, name: name, at: other})
					for _, name2 := range names {
						checkStep(t, f, rename(dir, name, other, name2))
					}
				}
			}
		}
	}
}

func TestExample(t *testing.T) {
	f := do(t, fresh(1), makeIn(root, "a", newDir()), makeIn(at(2), "f", newFile()), step{do: doLink, dir: root, name: "g", at: at(3)})
	if files.Links(f, at(3)) != 2 {
		t.Error("Links is not 2")
	}
	f = do(t, f, step{do: doUnlink, dir: at(2), name: "f"}, step{do: doUnlink, dir: root, name: "g"})
	if _, found := files.Node(f, at(3)); found {
		t.Error("the node is there")
	}
	do(t, f, step{do: doRemove, dir: root, name: "a"})
}

// R1, R2

// copyOf copies files, with room behind each list that is filled with marks.
func copyOf(f api.Files) api.Files {
	g := api.Files{Devices: make([]api.Device, 0, len(f.Devices)+2)}
	for _, d := range f.Devices {
		nodes := make([]api.Node, 0, len(d.Nodes)+2)
		for _, n := range d.Nodes {
			entries := append(make([]api.Entry, 0, len(n.Entries)+2), n.Entries...)
			copy(entries[len(entries):cap(entries)], []api.Entry{{Name: "mark", Ino: 77}, {Name: "mark", Ino: 78}})
			n.Entries = entries
			nodes = append(nodes, n)
		}
		copy(nodes[len(nodes):cap(nodes)], []api.Node{{Ino: 77}, {Ino: 78}})
		d.Nodes = nodes
		g.Devices = append(g.Devices, d)
	}
	copy(g.Devices[len(g.Devices):cap(g.Devices)], []api.Device{{Next: 77}, {Next: 78}})
	return g
}

// whole lengthens all lists to their capacity.
func whole(f api.Files) api.Files {
	g := api.Files{Devices: slices.Clone(f.Devices[:cap(f.Devices)])}
	for i, d := range g.Devices {
		g.Devices[i].Nodes = slices.Clone(d.Nodes[:cap(d.Nodes)])
		for j, n := range g.Devices[i].Nodes {
			g.Devices[i].Nodes[j].Entries = slices.Clone(n.Entries[:cap(n.Entries)])
		}
	}
	return g
}

// scribble changes all of f, with its spare capacity.
func scribble(f api.Files) {
	for i, d := range f.Devices[:cap(f.Devices)] {
		for j, n := range d.Nodes[:cap(d.Nodes)] {
			for k := range n.Entries[:cap(n.Entries)] {
				n.Entries[:cap(n.Entries)][k] = api.Entry{Name: "scribble", Ino: -1}
			}
			d.Nodes[:cap(d.Nodes)][j] = api.Node{Ino: -1}
		}
		f.Devices[:cap(f.Devices)][i] = api.Device{}
	}
}

func TestMemory(t *testing.T) {
	steps := []step{
		makeIn(root, "x", newDir()), makeIn(root, "d", newDir()),
		{do: doLink, dir: root, name: "a", at: at(3)},
		{do: doUnlink, dir: root, name: "g"}, {do: doUnlink, dir: root, name: "l"},
		{do: doRemove, dir: at(2), name: "e"},
		rename(root, "g", root, "a"), rename(root, "g", root, "l"), rename(at(2), "e", root, "b"), rename(root, "g", root, "g"), rename(root, "g", root, "d"),
		{do: doSet, at: at(3), node: api.Node{Mode: 1}}, {do: doSet, at: at(3), node: api.Node{Mode: -1}},
	}
	for i, x := range steps {
		f := copyOf(tree(t))
		before := whole(f)
		g, changes, e := x.run(f)
		if !equalFiles(whole(f), before) {
			t.Errorf("step %d: the argument is changed", i)
		}
		if e != 0 {
			continue
		}
		want, changed := copyOf(g), slices.Clone(changes)
		scribble(f)
		if !equalFiles(g, want) || !slices.Equal(changes, changed) {
			t.Errorf("step %d: the result is kept by the argument", i)
		}
		for a := range g.Devices {
			g.Devices[a].Nodes = append(g.Devices[a].Nodes, api.Node{Ino: 99})
			for b := range want.Devices[a].Nodes {
				n := &g.Devices[a].Nodes[b]
				n.Entries = append(n.Entries, api.Entry{Name: "z", Ino: a*100 + b})
			}
		}
		for a := range want.Devices {
			for b, n := range want.Devices[a].Nodes {
				got := g.Devices[a].Nodes[b].Entries
				if !slices.Equal(got[:len(got)-1], n.Entries) || got[len(got)-1].Ino != a*100+b {
					t.Errorf("step %d: lists of the result share memory", i)
				}
			}
		}
	}
	f := tree(t)
	n, _ := files.Node(f, root)
	n.Entries[0].Name = "changed"
	if !equalFiles(f, tree(t)) {
		t.Error("the node shares memory with the files")
	}
}

// randomFiles returns files that are hardly ever valid.
func randomFiles(r *rand.Rand) api.Files {
	numbers := []int{0, 1, 2, 3, 4, -1, api.MaxIno, math.MaxInt, math.MinInt}
	number := func() int { return numbers[r.Intn(len(numbers))] }
	names := []string{"", "a", "b", "c", "..", "a/b"}
	var f api.Files
	for range r.Intn(4) {
		d := api.Device{Next: number()}
		for range r.Intn(7) {
			n := api.Node{Ino: number(), Kind: r.Intn(5), Mode: number(), UID: number(), GID: number(), Parent: number(), Target: names[r.Intn(len(names))]}
			for range r.Intn(4) {
				n.Entries = append(n.Entries, api.Entry{Name: names[r.Intn(len(names))], Ino: number()})
			}
			d.Nodes = append(d.Nodes, n)
		}
		f.Devices = append(f.Devices, d)
	}
	return f
}

func TestAnyFiles(t *testing.T) {
	r := rand.New(rand.NewSource(5))
	for range 20000 {
		f := randomFiles(r)
		before := copyOf(f)
		files.Valid(f)
		place := func() api.File { return api.File{Dev: r.Intn(4) - 1, Ino: r.Intn(6) - 1} }
		for range 4 {
			name := []string{"", "a", "b", "c"}
			x := step{do: r.Intn(doCount), dir: place(), dir2: place(), name: name[r.Intn(4)], name2: name[r.Intn(4)], at: place(), node: randomNode(r)}
			x.run(f)
			files.Node(f, x.at)
			files.Links(f, x.at)
			files.Look(f, x.dir, x.name)
		}
		if !equalFiles(f, before) {
			t.Fatalf("%v is changed", before)
		}
	}
}
