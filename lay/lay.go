// Package lay lays what is known to have bytes: it tells no errors.
package lay

import "wayside/wire"

// Numbers are the bytes of numbers, one behind the other.
func Numbers(l ...int) string {
	s := ""
	for _, n := range l {
		b, _ := wire.Number(n)
		s += b
	}
	return s
}

// Text is a text's bytes.
func Text(s string) string {
	b, _ := wire.Text(s)
	return b
}

// Row is a row's bytes.
func Row(l []int) string {
	b, _ := wire.Numbers(l)
	return b
}
