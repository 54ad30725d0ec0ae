package dom

import "slices"

// longestRow tells the most numbers of a list that rise in their order. Of the
// rows of each length it keeps the one that ends lowest, as any number that
// could follow another row of that length could follow that one too.
func longestRow(l []int) []int {
	ends := []int{-1}
	ahead := make([]int, len(l))
	i := 0
next:
	for length := 1; i < len(l); length++ {
		if length == len(ends) {
			ends = append(ends, i)
		}
		if l[ends[length]] < l[i] {
			continue
		}
		ends[length], ahead[i] = i, ends[length-1]
		i++
		goto next
	}
	var row []int
	for i = ends[len(ends)-1]; i >= 0; i = ahead[i] {
		row = append(row, l[i])
	}
	slices.Reverse(row)
	return row
}
