// Package lay lays what is known to have bytes: it tells no errors.
package lay

import (
	"wayside/api"
	"wayside/wire"
)

// Numbers are the bytes of numbers, one behind the other.
func Numbers(l ...int) string {
	s := ""
	for _, n := range l {
		s += bytes(wire.Number(n))
	}
	return s
}

// Text is a text's bytes.
func Text(s string) string { return bytes(wire.Text(s)) }

// Row is a row's bytes.
func Row(l []int) string { return bytes(wire.Numbers(l)) }

func bytes(s string, _ api.Errno) string { return s }
