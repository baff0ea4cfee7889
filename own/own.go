// Package own puts values of package api into memory of their own: what is
// handed to a layer isn't kept, and what a layer answers is new memory.
package own

import (
	"slices"

	"comitia/api"
)

// Block is a block that shares no list with b.
func Block(b api.Block) api.Block {
	b.Justify = Cert(b.Justify)
	b.Batch = slices.Clone(b.Batch)
	return b
}

// Cert is a certificate that shares no list with c.
func Cert(c api.Cert) api.Cert {
	c.Sigs = slices.Clone(c.Sigs)
	for i, s := range c.Sigs {
		c.Sigs[i] = Sig(s)
	}
	return c
}

// Sig is a signature that shares no list with s.
func Sig(s api.Sig) api.Sig {
	s.Tags = slices.Clone(s.Tags)
	return s
}
