package charge

import "armoire/api"

const (
	most            = 1000000 // what counts at the most, so that no sum wraps round
	itemsOfBlock    = 4       // items of a block of the tree, at the least
	treeBeside      = 4       // blocks of the tree beside these
	blocksOfChanged = 9       // blocks of a place of the Window
	blocksOfWritten = 10      // blocks of a place of Pending
)

// A share is a part of the charge: a method of a book, as a value.
type share func() int

func sum(shares ...share) int {
	all := 0
	for _, s := range shares {
		all += s()
	}
	return all
}

func (b Book) still() int { return api.Fixed + api.LogBlocks + api.Spare }

func (b Book) changed() int { return blocksOfChanged * count(b.Window) }

func (b Book) written() int { return blocksOfWritten * count(b.Pending) }

func count(n int) int { return min(max(n, 0), most) }
