package alloc

import "container/heap"

// freeNumbers is a heap with the least one ahead. It keeps where each stands, so that any of them comes out without a search.
type freeNumbers struct {
	numbers []int
	places  []int // among numbers, by the number; of one that is not free without meaning
}

// freeOnes has the numbers least to end - 1.
func freeOnes(least, end int) freeNumbers {
	f := freeNumbers{places: make([]int, end)}
	for n := least; n < end; n++ {
		f.add(n)
	}
	return f
}

func (f *freeNumbers) add(n int) { heap.Push(f, n) }

func (f *freeNumbers) takeLeast() int { return heap.Pop(f).(int) }

// remove takes out a number that is free.
func (f *freeNumbers) remove(n int) { heap.Remove(f, f.places[n]) }

func (f *freeNumbers) Len() int { return len(f.numbers) }

func (f *freeNumbers) Less(i, j int) bool { return f.numbers[i] < f.numbers[j] }

func (f *freeNumbers) Swap(i, j int) {
	one, other := f.numbers[i], f.numbers[j]
	f.numbers[i], f.numbers[j] = other, one
	f.places[other], f.places[one] = i, j
}

// Push adds one behind, for container/heap.
func (f *freeNumbers) Push(x any) {
	n := x.(int)
	f.places[n] = len(f.numbers)
	f.numbers = append(f.numbers, n)
}

// Pop takes the last one, for container/heap.
func (f *freeNumbers) Pop() any {
	last := len(f.numbers) - 1
	n := f.numbers[last]
	f.numbers = f.numbers[:last]
	return n
}
