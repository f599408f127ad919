// Package copies makes copies of values that the layers hand on. A copy shares no memory with what it was made of.
package copies

import (
	"slices"

	"kaudit/api"
)

// List returns the list of the copies of the elements of list.
func List[T any](list []T, one func(T) T) []T {
	var out []T
	for _, x := range list {
		out = append(out, one(x))
	}
	return out
}

// Node returns a copy of n.
func Node(n api.Node) api.Node {
	n.Entries = slices.Clone(n.Entries)
	return n
}

// Files returns a copy of f.
func Files(f api.Files) api.Files {
	return api.Files{Devices: List(f.Devices, device)}
}

// Space returns a copy of s.
func Space(s api.Space) api.Space {
	return api.Space{Files: Files(s.Files), Mounts: slices.Clone(s.Mounts)}
}

func device(d api.Device) api.Device {
	d.Nodes = List(d.Nodes, Node)
	return d
}
