// Package list has what is done with lists of any things.
package list

// Fold takes the things of l, one behind the other, to what there is.
func Fold[T, R any](l []T, there R, take func(R, T) R) R {
	for _, x := range l {
		there = take(there, x)
	}
	return there
}
