"""What is carried along from webs to those made of them."""
