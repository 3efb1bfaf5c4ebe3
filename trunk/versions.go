package trunk

import (
	"slices"

	"armoire/api"
	"armoire/version"
)

// versions are those whose roots are there. The last one is the trunk's.
type versions struct {
	registry *version.Registry
	elder    []int // the snapshots of all others, each of another root
	items    int
	next     uint32
}

func versionsFrom(h api.Head) versions {
	return versions{registry: version.New(h.Root, h.Version), items: int(h.Items), next: h.Next}
}

// Root, Version, Items and Next are the trunk's.
func (v *versions) Root() uint32 {
	root, _ := v.registry.Trunk()
	return root
}

func (v *versions) Version() uint64 {
	_, number := v.registry.Trunk()
	return number
}

func (v *versions) Items() int { return v.items }

func (v *versions) Next() uint32 { return v.next }

// head is what a head says of the trunk.
func (v *versions) head() api.Head {
	return api.Head{Version: v.Version(), Root: v.Root(), Next: v.next, Items: uint32(v.items)}
}

// changed is how much was changed.
func (v *versions) changed() int { return v.registry.Window() }

// add adds the next version. Of several with one root the last one counts, so that the elder ones go.
func (v *versions) add(root uint32, steps, items int, next uint32) {
	id, _, _ := v.registry.Open()
	v.elder = append(v.elder, id)
	v.registry.Next(root, steps)
	v.items, v.next = items, next
	v.leave(func(elder uint32) bool { return elder == root })
}

// keep lets those alone be there, and the trunk's.
func (v *versions) keep(roots []uint32) {
	v.leave(func(elder uint32) bool { return !slices.Contains(roots, elder) })
	v.registry.Settle()
}

// leave lets go of the elder ones whose roots are such.
func (v *versions) leave(goes func(root uint32) bool) {
	v.elder = slices.DeleteFunc(v.elder, func(id int) bool {
		root, _, _ := v.registry.Snapshot(id)
		if !goes(root) {
			return false
		}
		v.registry.Close(id)
		return true
	})
}
