package huff

import (
	"container/heap"

	"kist/api"
)

// thing is a byte, or two things that became one.
type thing struct {
	weight int
	number int
}

// things is a heap with the least one ahead.
type things []thing

func (t things) Len() int { return len(t) }

// Less falls back on numbers, so that no two things are alike and there is only one tree.
func (t things) Less(i, j int) bool {
	if t[i].weight != t[j].weight {
		return t[i].weight < t[j].weight
	}
	return t[i].number < t[j].number
}

func (t things) Swap(i, j int) { t[i], t[j] = t[j], t[i] }

// Push adds one behind, for container/heap.
func (t *things) Push(x any) { *t = append(*t, x.(thing)) }

// Pop takes the last one, for container/heap.
func (t *things) Pop() any {
	last := len(*t) - 1
	x := (*t)[last]
	*t = (*t)[:last]
	return x
}

// Lengths is the lengths of codes for bytes that stand so often.
func Lengths(counts []int) ([]int, api.Errno) {
	if len(counts) > mostBytes {
		return nil, api.ErrArg
	}
	var stand, weights []int
	for b, count := range counts {
		if count < 0 || count > api.MaxNumber {
			return nil, api.ErrArg
		}
		if count > 0 {
			stand = append(stand, b)
			weights = append(weights, count)
		}
	}
	if len(stand) == 0 {
		return nil, api.ErrArg
	}
	lengths := make([]int, stand[len(stand)-1]+1)
	for i, depth := range shallow(weights) {
		lengths[stand[i]] = depth
	}
	return lengths, api.OK
}

// shallow is how deep each weight stands in a tree of codes that are none too long.
func shallow(weights []int) []int {
	if len(weights) == 1 {
		return []int{1} // a tree of one thing would give it no bits at all
	}
	depths, deepest := grow(weights)
	for deepest > api.MaxBits {
		// this ends: all weights come down to 1 and 2, and such a tree of 256 things is at most 9 deep
		for i := range weights {
			weights[i] = weights[i]/2 + 1
		}
		depths, deepest = grow(weights)
	}
	return depths
}

// grow makes the tree, and tells how deep each weight stands in it and the greatest of these.
func grow(weights []int) ([]int, int) {
	root := 2*len(weights) - 2
	parents := join(weights)
	depths := make([]int, root+1)
	deepest := 0
	for number := root - 1; number >= 0; number-- { // what a thing became part of has a greater number
		depths[number] = depths[parents[number]] + 1
		deepest = max(deepest, depths[number])
	}
	return depths[:len(weights)], deepest
}

// join puts the two least things together till there is one, and tells by number which one each became part of.
func join(weights []int) []int {
	least := make(things, 0, len(weights))
	for number, weight := range weights {
		least = append(least, thing{weight: weight, number: number})
	}
	heap.Init(&least)
	parents := make([]int, 2*len(weights)-2)
	for number := len(weights); least.Len() > 1; number++ {
		one := heap.Pop(&least).(thing)
		other := heap.Pop(&least).(thing)
		parents[one.number], parents[other.number] = number, number
		heap.Push(&least, thing{weight: one.weight + other.weight, number: number})
	}
	return parents
}
