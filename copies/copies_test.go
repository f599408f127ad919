package copies_test

import (
	"slices"
	"testing"

	"kaudit/api"
	"kaudit/copies"
)

func sample() api.Space {
	nodes := []api.Node{
		{Ino: 1, Kind: api.NodeDir, Mode: 493, Parent: 1, Entries: []api.Entry{{Name: "a", Ino: 2}, {Name: "l", Ino: 3}}},
		{Ino: 2, Kind: api.NodeFile, Mode: 1, UID: 2, GID: 3},
		{Ino: 3, Kind: api.NodeLink, Target: "a"},
	}
	return api.Space{
		Files:  api.Files{Devices: []api.Device{{Nodes: nodes, Next: 4}, {Nodes: slices.Clone(nodes[:1]), Next: 9}}},
		Mounts: []api.Mount{{Dev: 1, On: api.File{Ino: 1}}},
	}
}

func equalNodes(a, b api.Node) bool {
	entries := slices.Equal(a.Entries, b.Entries)
	return entries && a.Ino == b.Ino && a.Kind == b.Kind && a.Mode == b.Mode && a.UID == b.UID && a.GID == b.GID && a.Parent == b.Parent && a.Target == b.Target
}

func equal(a, b api.Space) bool {
	return slices.Equal(a.Mounts, b.Mounts) && slices.EqualFunc(a.Files.Devices, b.Files.Devices, func(a, b api.Device) bool {
		return a.Next == b.Next && slices.EqualFunc(a.Nodes, b.Nodes, equalNodes)
	})
}

// spoil changes one list of a space.
var spoil = []func(s api.Space){
	func(s api.Space) { s.Mounts[0].Dev = 7 },
	func(s api.Space) { s.Files.Devices[0].Next = 7 },
	func(s api.Space) { s.Files.Devices[0].Nodes[1].UID = 7 },
	func(s api.Space) { s.Files.Devices[0].Nodes[0].Entries[1].Ino = 7 },
	func(s api.Space) { _ = append(s.Mounts, api.Mount{}) },
}

func TestSpace(t *testing.T) {
	for i, change := range spoil {
		s := sample()
		c := copies.Space(s)
		if !equal(c, sample()) {
			t.Fatal("the copy differs")
		}
		if change(s); !equal(c, sample()) {
			t.Errorf("%d: the copy changes with the space", i)
		}
	}
}

func TestNode(t *testing.T) {
	n := sample().Files.Devices[0].Nodes[0]
	c := copies.Node(n)
	n.Entries[0].Ino = 7
	if !equalNodes(c, sample().Files.Devices[0].Nodes[0]) {
		t.Error("the copy shares memory with the node")
	}
}

func TestEmpty(t *testing.T) {
	if s := copies.Space(api.Space{}); len(s.Mounts)+len(s.Files.Devices) != 0 {
		t.Error("the copy of nothing is something")
	}
	if list := copies.List([]int{1, 2}, func(x int) int { return x * 2 }); !slices.Equal(list, []int{2, 4}) {
		t.Errorf("List: %v", list)
	}
}
